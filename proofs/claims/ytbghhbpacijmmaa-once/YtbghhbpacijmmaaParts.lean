-- The small functions of Once.
import Derived.Test.YtbghhbpacijmmaaFur
namespace Go.Proofs.Ytbghhbpacijmmaa
open Go.RowKit
attribute [local go_sem ↓] Go.wp_at_zero Go.wp_at_succ

def pk (c n : Int) : Int := (if c < 0 then -(c + 1) else c) % n
theorem pk_range (c n : Int) (hn : 0 < n) : 0 ≤ pk c n ∧ pk c n < n := ⟨Int.emod_nonneg _ (by omega), Int.emod_lt_of_pos _ hn⟩

set_option maxRecDepth 100000 in
set_option maxHeartbeats 1000000 in
theorem pick_any (c n : Int) (w : World) (h0 : -9223372036854775808 ≤ c) (h1 : c ≤ 9223372036854775807) (hn : 0 < n) (hn1 : n ≤ 9223372036854775807) :
    Calls Try.prog 6 #[.int .i64 c, .int .i64 n] w fun e w' => e = .returned (.int .i64 (pk c n)) ∧ w' = w := by
  unfold pk
  have hnz : n ≠ 0 := by omega
  by_cases hc : c < 0
  · rw [if_pos hc]
    have e3 : Int.tmod (-(c + 1)) n = (-(c + 1)) % n := Int.tmod_eq_emod_of_nonneg (by omega)
    have r := Int.emod_nonneg (-(c + 1)) hnz
    have r2 := Int.emod_lt_of_pos (-(c + 1)) hn
    go_enter Try.func6, Try.ntmps6
    go_wp2
    go_ret
    exact ⟨rfl, rfl⟩
  · rw [if_neg hc]
    have e3 : Int.tmod c n = c % n := Int.tmod_eq_emod_of_nonneg (by omega)
    have r := Int.emod_nonneg c hnz
    have r2 := Int.emod_lt_of_pos c hn
    go_enter Try.func6, Try.ntmps6
    go_wp2
    go_ret
    exact ⟨rfl, rfl⟩

def cfg (a b c d : Int) : Value := .agg #[.int .i64 a, .int .i64 b, .int .i64 c, .int .i64 d]

set_option maxRecDepth 100000 in
set_option maxHeartbeats 1000000 in
theorem settings_any (c u v z : Int) (w : World) (hc : -9223372036854775808 ≤ c ∧ c ≤ 9223372036854775807) (hu : -9223372036854775808 ≤ u ∧ u ≤ 9223372036854775807) (hv : -9223372036854775808 ≤ v ∧ v ≤ 9223372036854775807) (hz : -9223372036854775808 ≤ z ∧ z ≤ 9223372036854775807) :
    Calls Try.prog 5 #[.int .i64 c, .int .i64 u, .int .i64 v, .int .i64 z] w fun e w' => e = .returned (cfg (1 + pk c 3) (1 + pk u 3) (1 + 2 * pk v 3) (1 + pk z 5)) ∧ Bl w w' := by
  have Pc := hid (fun W => pick_any c 3 W hc.1 hc.2 (by decide) (by decide))
  have Pu := hid (fun W => pick_any u 3 W hu.1 hu.2 (by decide) (by decide))
  have Pv := hid (fun W => pick_any v 3 W hv.1 hv.2 (by decide) (by decide))
  have Pz := hid (fun W => pick_any z 5 W hz.1 hz.2 (by decide) (by decide))
  have rc := pk_range c 3 (by decide)
  have ru := pk_range u 3 (by decide)
  have rv := pk_range v 3 (by decide)
  have rz := pk_range z 5 (by decide)
  generalize pk c 3 = pc at *
  generalize pk u 3 = pu at *
  generalize pk v 3 = pv at *
  generalize pk z 5 = pz at *
  obtain ⟨rc0, rc1⟩ := rc
  obtain ⟨ru0, ru1⟩ := ru
  obtain ⟨rv0, rv1⟩ := rv
  obtain ⟨rz0, rz1⟩ := rz
  clear hc hu hv hz
  go_enter Try.func5, Try.ntmps5
  go_wp2_with fail
  refine (Pc.out _).mono ?_
  rintro e w1 ⟨rfl, rfl⟩
  go_wp2_with fail
  refine (Pu.out _).mono ?_
  rintro e w1 ⟨rfl, rfl⟩
  go_wp2_with fail
  refine (Pv.out _).mono ?_
  rintro e w1 ⟨rfl, rfl⟩
  go_wp2_with fail
  refine (Pz.out _).mono ?_
  rintro e w1 ⟨rfl, rfl⟩
  go_wp2
  exact bodyPost_ret (v := cfg (1 + pc) (1 + pu) (1 + 2 * pv) (1 + pz)) (by simp [results, Try.results5, go_sem, cfg]) rfl ⟨rfl, by first | exact (Bl.refl _).alloc _ | exact ((((Only.refl (fun b => b = w.heap.size) (w.alloc _)).setCell _ (.inl rfl) _).setCell _ (.inl rfl) _).setCell _ (.inl rfl) _).setCell _ (.inl rfl) _⟩

theorem Sl.bytes {w : World} {v : Value} {ys : List Int} (h : Sl w v (ys.map B8)) : ∃ a c, v = .slice a ys.length c := by
  obtain ⟨a, c, e⟩ := h.len
  rw [List.length_map] at e
  exact ⟨a, c, e⟩

set_option maxRecDepth 100000 in
set_option maxHeartbeats 1000000 in
theorem told_any (wh ep mk kd cl ca : Int) (u v : Value) (ys : List Int) (w : World) (hu : Sl w u (ys.map B8)) (hv : Sl w v (ys.map B8)) :
    Calls Try.prog 12 #[reply wh ep mk kd cl ca u, .int .i64 wh, .agg #[.int .i64 kd, .int .i64 cl, .int .i64 ca, v]] w fun e w' => e = .returned (.bool true) ∧ Bl w w' := by
  obtain ⟨a, c, e⟩ := hu.bytes
  obtain ⟨a', c', e'⟩ := hv.bytes
  subst e e'
  have bA := ((Bl.refl w).alloc (.cells #[.int .i64 wh, .int .i64 ep, .int .i64 mk, .int .i64 kd, .int .i64 cl, .int .i64 ca, .slice a ys.length c] 34)).alloc (.cells #[.int .i64 kd, .int .i64 cl, .int .i64 ca, .slice a' ys.length c'] 31)
  have k1 := conv_any _ ys _ (hu.bl bA)
  have k2 := conv_any _ ys _ (hv.bl bA)
  have HB := hid bA
  generalize strOf ys = st at *
  clear hu hv bA
  unfold reply
  go_enter Try.func12, Try.ntmps12
  go_wp2
  go_ret
  exact ⟨rfl, HB.out⟩

/-- A content as Once makes it: its value reads as ys. -/
structure Dat (w0 w1 w : World) (v : Value) (ys : List Int) : Prop where
  bs : Bs w v (ys.map B8)
  l1 : 1 ≤ ys.length
  l8 : ys.length ≤ 8
  by8 : ∀ d ∈ ys, 0 ≤ d ∧ d ≤ 255
  lt : ∀ g, v.ownBlock = some g → g < w.heap.size
  old : ∀ g, v.ownBlock = some g → g < w0.heap.size ∨ w1.heap.size ≤ g

theorem Dat.take {w0 w w' : World} {a : Option Addr} {n c : Nat} {zs : List Int} (h0 : Bl w0 w) (hb : Bl w w') (hv : Sl w0 (.slice a n c) (zs.map B8)) (hz : ∀ d ∈ zs, 0 ≤ d ∧ d ≤ 255) (h1 : 1 ≤ zs.length) (k : Nat) (hk : k = min zs.length 8) : Dat w0 w w' (.slice a k c) (zs.take 8) := by
  have hl : (zs.take 8).length = k := by rw [List.length_take]; omega
  rcases hv with ⟨a9, c9, _, e2⟩ | ⟨b, o, c9, e1, hlt, hc⟩
  · simp at e2; subst e2; simp at h1
  · injection e1 with e1 e2 e3
    subst e1 e3
    refine ⟨.inr ⟨⟨b, o, none⟩, c, by rw [List.length_map, hl], fun j u hj => ?_⟩, by omega, by omega, fun d hd => hz d (List.mem_of_mem_take hd), fun g e => ?_, fun g e => ?_⟩
    · rw [add_eq]
      rw [List.map_take, List.getElem?_take] at hj
      split at hj
      · obtain ⟨h2, h3⟩ := List.getElem?_eq_some_iff.1 hj
        rw [(h0.trans hb).cell hlt, hc j h2, h3]
      · simp at hj
    · simp [Value.ownBlock] at e; subst e; exact Nat.lt_of_lt_of_le hlt (h0.trans hb).lt
    · simp [Value.ownBlock] at e; subst e; exact .inl hlt

set_option maxRecDepth 100000 in
set_option maxHeartbeats 1000000 in
theorem data_any (cl ca : Int) (v : Value) (zs Y : List Int) (w0 w : World) (hw0 : Bl w0 w) (hv : Sl w0 v (zs.map B8)) (hz : ∀ d ∈ zs, 0 ≤ d ∧ d ≤ 255) (hl : ∀ a n c, v = .slice a n c → n ≤ c ∧ (c : Int) ≤ 9223372036854775807) (hY : Y = (if zs = [] then [1] else zs.take 8)) :
    Calls Try.prog 8 #[.int .i64 cl, .int .i64 ca, v] w fun e w' => ∃ v', e = .returned (.agg #[.int .i64 8, .int .i64 cl, .int .i64 ca, v']) ∧ Bl w w' ∧ Dat w0 w w' v' Y := by
  obtain ⟨a, c, e⟩ := hv.bytes
  obtain ⟨hc1, hc2⟩ := hl _ _ _ e
  subst e
  by_cases h0 : zs = []
  · subst h0
    rw [if_pos rfl] at hY
    have HY := hid hY
    simp only [List.length_nil]
    clear hl hv hY
    go_enter Try.func8, Try.ntmps8
    go_wp2
    have hb := ((Bl.refl w).alloc (.cells #[.int .i64 8, .int .i64 cl, .int .i64 ca, .slice (some ⟨w.heap.size + 1, 0, none⟩) 1 1] 31)).alloc (.cells #[.int .u8 1] 5)
    have hs := bs_new (w.alloc (.cells #[.int .i64 8, .int .i64 cl, .int .i64 ca, .slice (some ⟨w.heap.size + 1, 0, none⟩) 1 1] 31)) 5 #[.int .u8 1] 1 rfl
    rw [show (w.alloc (.cells #[.int .i64 8, .int .i64 cl, .int .i64 ca, .slice (some ⟨w.heap.size + 1, 0, none⟩) 1 1] 31)).heap.size = w.heap.size + 1 from by simp] at hs
    refine bodyPost_ret (v := .agg #[.int .i64 8, .int .i64 cl, .int .i64 ca, .slice (some ⟨w.heap.size + 1, 0, none⟩) 1 1]) (by simp [results, Try.results8, go_sem]) rfl ⟨_, rfl, hb, ?_⟩
    rw [HY.out]
    refine ⟨hs, by decide, by decide, by decide, fun g e => ?_, fun g e => ?_⟩
    · simp [Value.ownBlock] at e; subst e; simp
    · simp [Value.ownBlock] at e; subst e; exact .inr (by omega)
  · rw [if_neg h0] at hY
    have h1 : 1 ≤ zs.length := by cases zs with | nil => exact absurd rfl h0 | cons _ _ => simp
    have hq : (((zs.length : Nat) : Int) == 0) = false := by simp; omega
    have Hv := hid hv
    have Hz := hid hz
    have HY := hid hY
    clear hl hv h0 hY hz
    by_cases h8 : zs.length ≤ 8
    · have h8' : ((zs.length : Nat) : Int) ≤ 8 := by omega
      have hc' : ((zs.length : Nat) : Int) ≤ (c : Int) := by omega
      go_enter Try.func8, Try.ntmps8
      go_wp2
      have hb := (Bl.refl w).alloc (.cells #[.int .i64 8, .int .i64 cl, .int .i64 ca, .slice a zs.length c] 31)
      refine bodyPost_ret (v := .agg #[.int .i64 8, .int .i64 cl, .int .i64 ca, .slice a zs.length c]) (by simp [results, Try.results8, go_sem]) rfl ⟨_, rfl, hb, ?_⟩
      rw [HY.out]
      exact Dat.take hw0 hb Hv.out Hz.out h1 _ (by omega)
    · have h8' : (8 : Int) < ((zs.length : Nat) : Int) := by omega
      have h9' : ¬ ((zs.length : Nat) : Int) ≤ 8 := by omega
      have hc' : (8 : Int) ≤ (c : Int) := by omega
      go_enter Try.func8, Try.ntmps8
      go_wp2
      have hb := (Bl.refl w).alloc (.cells #[.int .i64 8, .int .i64 cl, .int .i64 ca, .slice a 8 c] 31)
      refine bodyPost_ret (v := .agg #[.int .i64 8, .int .i64 cl, .int .i64 ca, .slice a 8 c]) (by simp [results, Try.results8, go_sem]) rfl ⟨_, rfl, hb, ?_⟩
      rw [HY.out]
      exact Dat.take hw0 hb Hv.out Hz.out h1 _ (by omega)

set_option maxRecDepth 100000 in
set_option maxHeartbeats 1000000 in
theorem opened_any (a b c d u ch : Int) (ad : Option Addr) (n cc : Nat) (rs : List Rc) (S : Nat → St) (w : World) (hch : cha a b c d u = (ch, 0)) (hw : Way a b c d ch rs S) (hl : (flat rs).length ≤ 3000000) (hd : Cut w ad n cc rs) :
    Calls Try.prog 7 #[cfg a b c d, .int .i64 u, .slice ad n cc] w fun e w' => ∃ k p K, e = .returned (.tuple #[.pointer (some ⟨p, 0, none⟩), .bool true]) ∧ k ≤ rs.length ∧ off rs k ≤ n ∧ (∀ h : k < rs.length, n < off rs k + rs[k].bytes.length) ∧ w.heap.size ≤ p ∧ Ks w.heap.size w' p a b c d ch (S k).ep (S k).mark (S k).ct (flat (rs.take k)) K ∧ (k = 0 → ∀ B, Ks B w' p a b c d ch (S k).ep (S k).mark (S k).ct (flat (rs.take k)) K) ∧ Bl w w' := by
  have bA := hid ((Bl.refl w).alloc (.cells #[.int .i64 a, .int .i64 b, .int .i64 c, .int .i64 d] 24))
  have HO := hid (openCells_any a b c d u ch ad n cc rs S _ hch hw hl (hd.bl bA.out))
  unfold cfg
  clear hch hw hd
  go_enter Try.func7, Try.ntmps7
  go_wp2_with fail
  refine HO.out.mono ?_
  rintro e w1 ⟨k, p, K, rfl, r1, r2, r3, r4, r5, r7, r6⟩
  have R1 := hid r1
  have R2 := hid r2
  have R3 := hid r3
  have R4 := hid r4
  have R5 := hid r5
  have R6 := hid r6
  have R7 := hid r7
  clear r1 r2 r3 r4 r5 r6 r7 HO
  go_wp2
  go_ret2
  exact ⟨k, p, K, rfl, R1.out, R2.out, R3.out, Nat.le_trans bA.out.lt R4.out, R5.out.base bA.out.lt, R7.out, bA.out.trans R6.out⟩
end Go.Proofs.Ytbghhbpacijmmaa
