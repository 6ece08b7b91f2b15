/-
  Numbers as bytes, and back.
-/
import Derived.Test.YtbghhbpacijmmaaBase
namespace Go.Proofs.Ytbghhbpacijmmaa
open Go.RowKit
theorem Try.info5 : (Try.prog.info? 5).map (fun i => (i.zero, i.size, i.bytes)) = some (some (.int .u8 0), 1, 1) := by kernel_rfl

/-- A byte as a value. -/
def B8 (x : Int) : Value := .int .u8 x
/-- Byte j of a number. -/
def byteAt (n : Int) (j : Nat) : Int := IntKind.u64.wrap n / 2 ^ (56 - 8 * j) % 256
def enc8 (n : Int) : List Int := (List.range 8).map (byteAt n)
theorem enc8_len (n : Int) : (enc8 n).length = 8 := by simp [enc8]
theorem enc8_succ (n : Int) (j : Nat) (h : j < 8) : (enc8 n).take (j + 1) = (enc8 n).take j ++ [byteAt n j] := by
  rw [List.take_succ_eq_append_getElem (by rw [enc8_len]; exact h)]
  simp [enc8]

/-- What an append to a row of the call's own leaves. -/
structure Grew (base : Nat) (e : TypeId) (w w' : World) (v v' : Value) (n : Nat) (xs : List Value) : Prop where
  own : w'.ownsRow base e 1 v' n xs
  only : Only (fun b => v.ownBlock = some b) w w'
  lies : ∀ b, v'.ownBlock = some b → v.ownBlock = some b ∨ w.heap.size ≤ b
  shape : ∃ a c, v' = .slice a n c

theorem Grew.trans {base : Nat} {e : TypeId} {w w1 w2 : World} {v v1 v2 : Value} {n m : Nat} {xs ys : List Value} (h : Grew base e w w1 v v1 n xs) (k : Grew base e w1 w2 v1 v2 m ys) : Grew base e w w2 v v2 m ys := by
  refine ⟨k.own, ⟨k.only.os.trans h.only.os, k.only.tape.trans h.only.tape, k.only.output.trans h.only.output, Nat.le_trans h.only.size k.only.size, fun i hi hs => ?_⟩, fun b hb => ?_, k.shape⟩
  · rw [k.only.block i (Nat.lt_of_lt_of_le hi h.only.size) (fun e => ?_), h.only.block i hi hs]
    rcases h.lies i e with e' | e'
    · exact hs e'
    · omega
  · rcases k.lies b hb with hb' | hb'
    · exact h.lies b hb'
    · exact .inr (Nat.le_trans h.only.size hb')
/-- A row that was grown by the law of append, behind a new block. -/
theorem Grew.of_lies {base : Nat} {e : TypeId} {w w1 : World} {v : Value} {o : Obj} {n g cap : Nat} {xs : List Value} (hown : w1.ownsRow base e 1 (.slice (some ⟨g, 0, none⟩) n cap) n xs) (hgrow : (w.alloc o).grownBy w1 v.ownBlock) (hat : v.ownBlock = some g ∨ g = w.heap.size + 1) : Grew base e w w1 v (.slice (some ⟨g, 0, none⟩) n cap) n xs :=
  ⟨hown, (Only.of_bl ((Bl.refl _).alloc o)).trans ((Only.of_grown hgrow).mono fun k _ e => e.symm), fun b hb => by
    simp [Value.ownBlock] at hb
    subst hb
    rcases hat with h | h
    · exact .inl h
    · exact .inr (by omega), ⟨_, _, rfl⟩⟩
theorem Grew.refl {base : Nat} {e : TypeId} {w : World} {v : Value} {n : Nat} {xs : List Value} (h : w.ownsRow base e 1 v n xs) : Grew base e w w v v n xs :=
  ⟨h, Only.refl _ _, fun b hb => .inl hb, by
    obtain ⟨a, c, e⟩ := (ownsRow_sl h).len
    rw [ownsRow_len h] at e
    exact ⟨a, c, e⟩⟩

set_option maxRecDepth 100000 in
set_option maxHeartbeats 1000000 in
theorem appendNumber_any (base : Nat) (v : Value) (k : Nat) (xs : List Value) (n : Int) (w : World) (hv : w.ownsRow base 5 1 v k xs) (hb : base ≤ w.heap.size) (hk : k ≤ 40000000) :
    Calls Try.prog 62 #[v, .int .i64 n] w fun e w' => ∃ v', e = .returned v' ∧ Grew base 5 w w' v v' (k + 8) (xs ++ (enc8 n).map B8) := by
  obtain ⟨i5, ji, jz0, jz1, jz2⟩ := info_parts Try.info5
  have Hv := hid hv
  clear hv
  go_enter Try.func62, Try.ntmps62
  go_wp2
  go_loopw [0, 6] (fun d sh wr => ∃ (j : Nat), j ≤ 8 ∧ sh = .int .i64 (56 - 8 * (j : Int)) ∧ Grew base 5 w wr v d (k + j) (xs ++ ((enc8 n).take j).map B8)) (fun _ sh _ => (intOf sh + 8).toNat)
  case atStart => exact ⟨0, by omega, rfl, by simpa using Grew.refl Hv.out⟩
  case round =>
    obtain ⟨j, hj, rfl, hG⟩ := hrel
    have HG := hid hG
    clear hG
    by_cases hlt : j < 8
    · have hby : Hid ((k + j + 1) * 1 ≤ 140737488355328) := by unfold Hid; omega
      have hml : Hid (k + j + 1 ≤ maxLen) := by unfold Hid maxLen; omega
      have hsz := Nat.le_trans hb HG.out.only.size
      have hd : decide (8 * (j : Int) ≤ 56) = true := by simp; omega
      go_wp2_with (at_builtin; refine wpList_append_lies _ rfl _ _ 22 rfl base 5 i5 (.int .u8 0) 1 1 Try.underlying22 ji jz0 jz1 jz2 rfl (by decide) _ (k + j) _ rfl (HG.out.own.alloc _) ⟨wr.heap.size, 0, none⟩ 1 1 [B8 (byteAt n j)] rfl rfl (cell_one_new _ _ _) (by simp [B8, Value.oneCell']) (by decide) hml.out hby.out (by simp; omega) (wr.heap.size + 1) (by simp) ?_)
      intro g cap w1 hown hgrow hat hlt'
      have HG1 := hid (HG.out.trans (Grew.of_lies hown hgrow hat))
      have HE := hid (enc8_succ n j hlt)
      clear hown hgrow hat HG
      go_wp2
      go_roundw
      case rel => exact ⟨j + 1, by omega, by go_num, by rw [HE.out]; simpa [Nat.add_assoc] using HG1.out⟩
      case measure => simp [intOf]; omega
    · have hj8 : j = 8 := by omega
      subst hj8
      go_wp2
      go_ret
      refine ⟨_, rfl, ?_⟩
      have := HG.out
      rw [List.take_of_length_le (by rw [enc8_len]; omega)] at this
      exact this
/-- The number that j bytes have told. -/
def topOf (n : Int) (j : Nat) : Int := IntKind.u64.wrap n / 2 ^ (64 - 8 * j)

theorem wrap_u64 (n : Int) : IntKind.u64.wrap n = n % 18446744073709551616 := by
  simp [IntKind.wrap, IntKind.bits, IntKind.signed]
theorem wrap_u64_id (n : Int) (h0 : 0 ≤ n) (h1 : n < 18446744073709551616) : IntKind.u64.wrap n = n := by
  rw [wrap_u64, Int.emod_eq_of_lt h0 h1]
/-- The number as it lies in 64 bits. -/
theorem bits_nat (n : Int) : ∃ W : Nat, IntKind.u64.wrap n = (W : Int) ∧ W < 18446744073709551616 := by
  rw [wrap_u64]
  have h0 := Int.emod_nonneg n (show (18446744073709551616 : Int) ≠ 0 by decide)
  have h1 := Int.emod_lt_of_pos n (show (0 : Int) < 18446744073709551616 by decide)
  exact ⟨(n % 18446744073709551616).toNat, by omega, by omega⟩
theorem top_step (n : Int) (k : Nat) (h : k < 8) : bits .or .u64 (IntKind.u64.wrap (topOf n k * 256)) (IntKind.u64.wrap (byteAt n k)) = topOf n (k + 1) := by
  obtain ⟨W, hW, hlt⟩ := bits_nat n
  unfold topOf byteAt
  rw [hW]
  have e1 : (2 : Int) ^ (64 - 8 * k) = ((2 ^ (56 - 8 * k) * 256 : Nat) : Int) := by
    have : 64 - 8 * k = (56 - 8 * k) + 8 := by omega
    rw [this, Int.pow_add]; simp
  have e2 : (2 : Int) ^ (56 - 8 * k) = ((2 ^ (56 - 8 * k) : Nat) : Int) := by simp
  have e3 : 64 - 8 * (k + 1) = 56 - 8 * k := by omega
  rw [e3, e1, e2]
  generalize hX : W / 2 ^ (56 - 8 * k) = X
  have hXl : X < 18446744073709551616 := by rw [← hX]; exact Nat.lt_of_le_of_lt (Nat.div_le_self _ _) hlt
  have f1 : (W : Int) / ((2 ^ (56 - 8 * k) * 256 : Nat) : Int) = ((X / 256 : Nat) : Int) := by
    rw [← hX, Nat.div_div_eq_div_mul]; rfl
  have f2 : (W : Int) / ((2 ^ (56 - 8 * k) : Nat) : Int) = (X : Int) := by rw [← hX]; rfl
  rw [f1, f2]
  have f3 : ((X / 256 : Nat) : Int) * 256 = ((256 * (X / 256) : Nat) : Int) := by omega
  have f4 : (X : Int) % 256 = ((X % 256 : Nat) : Int) := by omega
  rw [f3, f4, wrap_u64_id _ (by omega) (by omega), wrap_u64_id _ (by omega) (by omega), u64_or_nat _ _ (by omega) (by omega)]
  have g := Nat.two_pow_add_eq_or_of_lt (i := 8) (show X % 256 < 2 ^ 8 by omega) (X / 256)
  have : (2 : Nat) ^ 8 = 256 := rfl
  rw [this] at g
  rw [← g]
  omega
theorem top_zero (n : Int) : topOf n 0 = 0 := by
  obtain ⟨W, hW, hlt⟩ := bits_nat n
  unfold topOf
  rw [hW]
  simp
  omega
theorem top_eight (n : Int) (h : (Lit.int .i64 n).wf = true) : wrap64 (topOf n 8) = n := by
  have hb : -9223372036854775808 ≤ n ∧ n ≤ 9223372036854775807 := by
    simpa [Lit.wf, IntKind.min, IntKind.max, IntKind.bits, IntKind.signed] using h
  have e : topOf n 8 = n % 18446744073709551616 := by
    unfold topOf
    rw [wrap_u64]
    simp
  rw [e]
  unfold wrap64
  omega

set_option maxRecDepth 100000 in
set_option maxHeartbeats 1000000 in
theorem number_any (v : Value) (n : Int) (w : World) (hv : Sl w v ((enc8 n).map B8)) (hn : (Lit.int .i64 n).wf = true) :
    Calls Try.prog 65 #[v] w fun e w' => e = .returned (.int .i64 n) ∧ w' = w := by
  rcases hv with ⟨a, c, rfl, hz⟩ | ⟨b, o, c, rfl, hb, hc⟩
  · have := congrArg List.length hz
    simp [enc8_len] at this
  · simp only [List.length_map, enc8_len] at hc ⊢
    go_enter Try.func65, Try.ntmps65
    go_wp2
    go_loop [3, 8] (fun t i => ∃ k : Nat, k ≤ 8 ∧ i = .int .i64 k ∧ t = .int .u64 (topOf n k)) (fun _ i => 8 - (intOf i).toNat)
    case atStart => exact ⟨0, by omega, rfl, by rw [top_zero]⟩
    case round =>
      obtain ⟨k, hk, rfl, rfl⟩ := hrel
      by_cases hlt : k < 8
      · have hcell := hc k hlt
        have hq : ((enc8 n).map B8)[k]'(by simp [enc8_len]; omega) = .int .u8 (byteAt n k) := by simp [enc8, B8]
        rw [hq] at hcell
        have HT := hid (top_step n k hlt)
        clear hq hc
        go_wp2
        go_round
        case rel => exact ⟨k + 1, by omega, by go_num, by rw [HT.out]⟩
        case measure => simp [intOf]; omega
      · have hk8 : k = 8 := by omega
        subst hk8
        have HT := hid (top_eight n hn)
        go_wp2
        go_ret
        exact ⟨ret_int HT.out, rfl⟩

end Go.Proofs.Ytbghhbpacijmmaa
