-- What was kept, and the beginning of an image.
-- Behind a call a voter of the script is kept.
/-
  The calls that only read lists.
-/
/-
  Lists of lists: sameLayout, leavable.
-/
/-
  What a call owns: rows of its own, and lists of such rows.
-/
import Derived.Test.YtkgjpfamjedncaaGreatNotedLastObjVSpecRSpecQ
import Derived.Test.YtkgjpfamjedncaaGreatLooksBRefVRefCRefDQ
import Derived.Test.YtkgjpfamjedncaaGreatBytesRead
import Derived.Test.YtkgjpfamjedncaaGreatLocateSmallKeepReachQ
namespace Go.Proofs.YtkgjpfamjedncaaGreat
open Go.RowKit Go.Maps

theorem lastTo_spec (zs : List Int) (n : Int) : ∀ k, (∃ i, i < k ∧ zs.getD i 0 ≤ n) → lastTo zs n k < k ∧ zs.getD (lastTo zs n k) 0 ≤ n ∧ ∀ j, lastTo zs n k < j → j < k → ¬ zs.getD j 0 ≤ n := by
  intro k
  induction k with
  | zero => rintro ⟨i, hi, _⟩; omega
  | succ k ih =>
    rintro ⟨i, hi, hz⟩
    unfold lastTo
    by_cases e : zs.getD k 0 ≤ n
    · rw [if_pos e]
      exact ⟨by omega, e, fun j h1 h2 => by omega⟩
    · rw [if_neg e]
      have hik : i ≠ k := fun e' => e (by rw [← e']; exact hz)
      obtain ⟨h1, h2, h3⟩ := ih ⟨i, by omega, hz⟩
      refine ⟨by omega, h2, fun j hj1 hj2 => ?_⟩
      by_cases ej : j = k
      · rw [ej]; exact e
      · exact h3 j hj1 (by omega)
theorem off_mono (rs : List Rc) : ∀ a b, a ≤ b → b ≤ rs.length → off rs a ≤ off rs b := by
  intro a b hab
  induction b with
  | zero => intro _; rw [show a = 0 by omega]; exact Nat.le_refl _
  | succ b ih =>
    intro hb
    by_cases e : a = b + 1
    · rw [e]; exact Nat.le_refl _
    · have := ih (by omega) (by omega)
      have := off_succ rs b (by omega)
      omega
/-- The sizes that were kept. -/
def szs (rs : List Rc) (ks : Nat → Nat) (m : Nat) : List Int := (List.range m).map fun i => ((off rs (ks i) : Nat) : Int)
theorem szs_get (rs : List Rc) (ks : Nat → Nat) (m i : Nat) (h : i < m) : (szs rs ks m).getD i 0 = (off rs (ks i) : Nat) := by
  simp [szs, List.getD, h]
theorem szs_len (rs : List Rc) (ks : Nat → Nat) (m : Nat) : (szs rs ks m).length = m := by simp [szs]
/-- The one that is picked goes with the records of which all is there. -/
theorem Kp.picks {rs : List Rc} {ks : Nat → Nat} {m : Nat} (h : Kp rs ks m) (K n : Nat) (hK : K ≤ rs.length) (h1 : off rs K ≤ n) (h2 : ∀ h : K < rs.length, n < off rs K + rs[K].bytes.length) : lastTo (szs rs ks m) n m < m ∧ ks (lastTo (szs rs ks m) n m) = K := by
  have hp := h.pos
  have hle : ∀ i, i < m → ks i ≤ rs.length := fun i hi => by
    have := h.mono i (m - 1) (by omega) (by omega)
    rw [h.last] at this; exact this
  have hiff : ∀ i, i < m → ((szs rs ks m).getD i 0 ≤ (n : Int) ↔ ks i ≤ K) := fun i hi => by
    rw [szs_get rs ks m i hi]
    constructor
    · intro hz
      apply Classical.byContradiction
      intro hgt
      have hlt : K < rs.length := by have := hle i hi; omega
      have h3 := h2 hlt
      have h4 := off_succ rs K hlt
      have h5 := off_mono rs (K + 1) (ks i) (by omega) (hle i hi)
      omega
    · intro hk
      have := off_mono rs (ks i) K hk hK
      omega
  obtain ⟨i0, hi0, hk0⟩ := h.all (m - 1) (by omega) K (by rw [h.last]; exact hK)
  obtain ⟨a1, a2, a3⟩ := lastTo_spec (szs rs ks m) n m ⟨i0, by omega, (hiff i0 (by omega)).2 (by omega)⟩
  refine ⟨a1, ?_⟩
  have b1 := (hiff _ a1).1 a2
  have b2 : i0 ≤ lastTo (szs rs ks m) n m := by
    apply Classical.byContradiction
    intro hlt
    exact a3 i0 (by omega) (by omega) ((hiff i0 (by omega)).2 (by omega))
  have b3 := h.mono i0 _ b2 a1
  omega
end Go.Proofs.YtkgjpfamjedncaaGreat

namespace Go.Proofs.YtkgjpfamjedncaaGreat
open Go.RowKit Go.Maps

theorem More.len {rs : List Rc} {S : Nat → Int → Ep} {rs' : List Rc} {S' : Nat → Int → Ep} (h : More rs S rs' S') : rs'.length = rs.length ∨ rs'.length = rs.length + 1 := by
  rcases h with ⟨rfl, _⟩ | ⟨r, E', rfl, _⟩
  · exact .inl rfl
  · exact .inr (by simp)
theorem More.off {rs : List Rc} {S : Nat → Int → Ep} {rs' : List Rc} {S' : Nat → Int → Ep} (h : More rs S rs' S') (k : Nat) (hk : k ≤ rs.length) : off rs' k = off rs k := by
  rcases h with ⟨rfl, _⟩ | ⟨r, E', rfl, _⟩
  · rfl
  · unfold Go.Proofs.YtkgjpfamjedncaaGreat.off
    rw [List.take_append_of_le_length hk]
theorem More.st {rs : List Rc} {S : Nat → Int → Ep} {rs' : List Rc} {S' : Nat → Int → Ep} (h : More rs S rs' S') (k : Nat) (hk : k ≤ rs.length) : S' k = S k := by
  rcases h with ⟨_, rfl⟩ | ⟨r, E', _, rfl⟩
  · rfl
  · exact upS_old _ _ _ _ hk
theorem Kp.more {rs : List Rc} {S : Nat → Int → Ep} {rs' : List Rc} {S' : Nat → Int → Ep} (h : More rs S rs' S') {ks : Nat → Nat} {m : Nat} (hk : Kp rs ks m) : Kp rs' (fun i => if i = m then rs'.length else ks i) (m + 1) := by
  have hp := hk.pos
  refine ⟨by omega, ?_, fun i hi => ?_, ?_⟩
  · rw [if_neg (by omega)]; exact hk.zero
  · by_cases e : i + 1 = m
    · rw [if_pos e, if_neg (by omega), show i = m - 1 by omega, hk.last]
      exact h.len
    · rw [if_neg e, if_neg (by omega)]; exact hk.step i (by omega)
  · rw [show m + 1 - 1 = m by omega, if_pos rfl]
theorem Kp.le {rs : List Rc} {ks : Nat → Nat} {m : Nat} (h : Kp rs ks m) (i : Nat) (hi : i < m) : ks i ≤ rs.length := by
  have := h.mono i (m - 1) (by omega) (by omega)
  rw [h.last] at this; exact this

/-- A voter of the script between its call and its keeping. -/
structure Om (w : World) (tag : Nat → Nat) (j q p y : Nat) (rs : List Rc) (S : Nat → Int → Ep) (rs' : List Rc) (S' : Nat → Int → Ep) (m nn : Nat) : Prop where
  vt : Vt w tag (tP j) p rs' S'
  rt : Rt w tag j y (S' rs'.length) nn
  more : More rs S rs' S'
  ex : ∃ pv sv xs ks, w.heap[q]? = some (.cells #[.pointer (some ⟨p, 0, none⟩), .pointer (some ⟨y, 0, none⟩), pv, sv] 91 (0, 0)) ∧ tag q = tD j ∧
    w.ownsRow 0 88 1 pv m xs ∧ (∀ b, pv.ownBlock = some b → tag b = tD j) ∧ w.ownsRow 0 3 1 sv m ((List.range m).map fun i => .int .i64 (off rs (ks i) : Nat)) ∧ (∀ b, sv.ownBlock = some b → tag b = tD j) ∧
    Kp rs ks m ∧ ∀ i, i < m → ∃ l, xs[i]? = some l ∧ Past w tag (tV j) l (S (ks i))

theorem tD_ne (j : Nat) : tD j ≠ tP j ∧ tD j ≠ tR j ∧ tD j ≠ tV j := by unfold tD tP tR tV; omega
theorem om_kept {w : World} {tag : Nat → Nat} {j q p y : Nat} {rs : List Rc} {S : Nat → Int → Ep} {rs' : List Rc} {S' : Nat → Int → Ep} {m nn : Nat} (h : Om w tag j q p y rs S rs' S' m nn) (hm : m ≤ 4000000) (hnn : nn < 4000000) (hl : (flat rs').length ≤ 30000000) :
    Calls Tryz.prog 34 #[.pointer (some ⟨q, 0, none⟩)] w fun en w' => en = .returned (.tuple #[]) ∧ (∃ tag', (∀ b, b < w.heap.size → tag' b = tag b) ∧ (∀ b, w.heap.size ≤ b → Mine j (tag' b)) ∧ Ob 0 w' tag' j q rs' S' (m + 1) nn) ∧ Only (fun b => tag b = tD j) w w' := by
  obtain ⟨⟨bm, M, vi, hv, hw, t1, t2, t3⟩, ⟨lv, n, F, h0, h1, h2, h3, h4, h5⟩, hmore, pv, sv, xs, ks, e1, e2, e3, e4, e5, e6, e7, e8⟩ := h
  obtain ⟨d1, d2, d3⟩ := tD_ne j
  have lq := (Array.getElem?_eq_some_iff.1 e1).1
  have hK : ∀ b, Kfoot q pv sv b → tag b = tD j := by
    rintro b (rfl | hb | hb)
    · exact e2
    · exact e4 b hb
    · exact e6 b hb
  refine (kept_any 0 q p y pv sv lv m n xs _ F bm rs'.length (S' rs'.length) (flat rs') M vi w e1 h1 hv e3 e5 (Nat.zero_le _) hm (by omega) hl (fun b hb => ⟨fun e => d1 (by rw [← hK b hb, e]; exact t1), fun e => d1 (by rw [← hK b hb, e]; exact t2), fun hF => d1 (by rw [← hK b hb]; exact t3 b hF)⟩)).mono ?_
  rintro en w' ⟨pv', sv', lc, rfl, r1, r2, r3, r4, r5, r6, r7⟩
  have O : Only (fun b => tag b = tD j) w w' := r5.mono fun b _ e => hK b e
  refine ⟨rfl, ?_, O⟩
  obtain ⟨tag', ht⟩ : ∃ tag', tag' = fun b => if b < w.heap.size then tag b else if pv'.ownBlock = some b ∨ sv'.ownBlock = some b then tD j else tV j := ⟨_, rfl⟩
  have old : ∀ b, b < w.heap.size → tag' b = tag b := fun b hb => by rw [ht]; simp [hb]
  have new : ∀ b, w.heap.size ≤ b → tag' b = if pv'.ownBlock = some b ∨ sv'.ownBlock = some b then tD j else tV j := fun b hb => by rw [ht]; simp only; rw [if_neg (by omega)]
  have nP : ∀ b, b < w.heap.size → tag b = tD j → tag b ≠ tP j := fun b _ e e' => d1 (e.symm.trans e')
  have nR : ∀ b, b < w.heap.size → tag b = tD j → tag b ≠ tR j ∧ tag b ≠ tV j := fun b _ e => ⟨fun e' => d2 (e.symm.trans e'), fun e' => d3 (e.symm.trans e')⟩
  have hvt : Vt w' tag' (tP j) p rs' S' := Vt.only (w := w) (tag := tag) ⟨bm, M, vi, hv, hw, t1, t2, t3⟩ O nP old
  have hrt : Rt w' tag' j y (S' rs'.length) nn := Rt.only (w := w) (tag := tag) ⟨lv, n, F, h0, h1, h2, h3, h4, h5⟩ O nR old
  have hpt : ∀ b, pv'.ownBlock = some b → tag' b = tD j := fun b hb => by
    by_cases hlt : b < w.heap.size
    · rcases r6 b hb with h' | h'
      · rw [old b hlt]; exact e4 b h'
      · omega
    · rw [new b (by omega), if_pos (.inl hb)]
  have hst : ∀ b, sv'.ownBlock = some b → tag' b = tD j := fun b hb => by
    by_cases hlt : b < w.heap.size
    · rcases r7 b hb with h' | h'
      · rw [old b hlt]; exact e6 b h'
      · omega
    · rw [new b (by omega), if_pos (.inr hb)]
  have hlen : xs.length = m := ownsRow_len e3
  refine ⟨tag', old, fun b hb => ?_, p, y, pv', sv', xs ++ [lc], _, r1, by rw [old q lq]; exact e2, hvt, hrt, r2, hpt, ?_, hst, e7.more hmore, fun i hi => ?_⟩
  · rw [new b hb]
    split
    · exact .inr (.inr (.inr rfl))
    · exact .inr (.inr (.inl rfl))
  · have heq : (List.range (m + 1)).map (fun i => Value.int .i64 (off rs' (if i = m then rs'.length else ks i) : Nat)) = ((List.range m).map fun i => Value.int .i64 (off rs (ks i) : Nat)) ++ [.int .i64 (flat rs').length] := by
      rw [List.range_succ, List.map_append]
      congr 1
      · refine List.map_congr_left fun i hi => ?_
        have hi' : i < m := by simpa using hi
        rw [if_neg (by omega), hmore.off _ (e7.le i hi')]
      · simp [off_all]
    rw [heq]
    exact r3
  · by_cases ei : i = m
    · subst ei
      refine ⟨lc, by rw [List.getElem?_append_right (by omega), hlen]; simp, ?_⟩
      rw [if_pos rfl]
      refine ⟨n, F, by omega, ownsRow_base r4 fun _ _ => Nat.zero_le _, h2, fun b hb => ?_, fun k hk => ⟨?_, fun b hb => ?_⟩⟩
      · rw [new b (r4.lt b hb).1, if_neg]
        rintro (e | e)
        · exact ownsRow_type r4 r2 (by decide) b hb e
        · exact ownsRow_type r4 r3 (by decide) b hb e
      · exact O.owns (h1.val k hk) fun b hb e => d3 (e.symm.trans (h5 k hk b hb))
      · rw [old b ((h1.val k hk).lt b hb).2]; exact h5 k hk b hb
    · obtain ⟨l, k1, k2⟩ := e8 i (by omega)
      refine ⟨l, by rw [List.getElem?_append_left (by omega)]; exact k1, ?_⟩
      rw [if_neg ei, hmore.st _ (e7.le i (by omega))]
      exact k2.only O (fun b hb e => (nR b hb e).2) old
end Go.Proofs.YtkgjpfamjedncaaGreat

namespace Go.Proofs.YtkgjpfamjedncaaGreat
open Go.RowKit

theorem not_mem_take_succ' {x : Int} {zs : List Int} {k : Nat} (hk : k < zs.length) (h : ¬ x ∈ zs.take k) (hx : (x == zs[k]) = false) : ¬ x ∈ zs.take (k + 1) :=
  not_mem_take_succ hk h (by rw [BEq.comm]; exact hx)
theorem mem_of_beq' {x : Int} {zs : List Int} {k : Nat} (hk : k < zs.length) (hx : (x == zs[k]) = true) : x ∈ zs :=
  mem_of_beq hk (by rw [BEq.comm]; exact hx)

set_option maxHeartbeats 400000 in
theorem within_any (v : Value) (zs : List Int) (x : Int) (w : World) (hv : Sl w v (zs.map (Value.int .i64))) (hs : zs.length ≤ 4000000) :
    Calls Tryz.prog 64 #[v, .int .i64 x] w fun e w' => e = .returned (.bool (decide (x ∈ zs))) ∧ w' = w := by
  rcases hv with ⟨a9, c9, rfl, hz⟩ | ⟨b, o, c, rfl, _, hc⟩
  · simp at hz; subst hz
    go_enter Tryz.func64, Tryz.ntmps64
    go_wp2
    refine wp_loop_rounds 1 ?_; rw [rounds_succ]; go_wp2
    go_ret
    exact ⟨ret_bool (by simp), rfl⟩
  · simp only [List.length_map] at hc ⊢
    go_enter Tryz.func64, Tryz.ntmps64
    go_wp2
    go_loop [5] (fun i => ∃ k : Nat, k ≤ zs.length ∧ i = .int .i64 k ∧ ¬ x ∈ zs.take k) (fun i => zs.length - (intOf i).toNat)
    case atStart => exact ⟨0, Nat.zero_le _, rfl, by simp⟩
    case round =>
      obtain ⟨k, hk, rfl, hx⟩ := hrel
      by_cases hlt : k < zs.length
      · have hcell := hc k hlt
        simp only [List.getElem_map] at hcell
        go_wp2
        · have hz := mem_of_beq hlt (by assumption)
          go_ret
          exact ⟨ret_bool (by simp [hz]), rfl⟩
        · have hz := not_mem_take_succ hlt hx (by assumption)
          go_round
          case rel => exact ⟨k + 1, by omega, by go_num, hz⟩
          case measure => simp [intOf]; omega
      · go_wp2
        go_ret
        have : zs.take k = zs := List.take_of_length_le (by omega)
        rw [this] at hx
        exact ⟨ret_bool (by simp [hx]), rfl⟩

set_option maxHeartbeats 400000 in
theorem index_any (v : Value) (zs : List Int) (x : Int) (w : World) (hv : Sl w v (zs.map (Value.int .i64))) (hs : zs.length ≤ 4000000) :
    Calls Tryz.prog 115 #[v, .int .i64 x] w fun e w' => ∃ n : Int, e = .returned (.int .i64 n) ∧ (0 ≤ n ↔ x ∈ zs) ∧ w' = w := by
  rcases hv with ⟨a9, c9, rfl, hz⟩ | ⟨b, o, c, rfl, _, hc⟩
  · simp at hz; subst hz
    go_enter Tryz.func115, Tryz.ntmps115
    go_wp2
    refine wp_loop_rounds 1 ?_; rw [rounds_succ]; go_wp2
    go_ret
    exact ⟨_, rfl, by simp, rfl⟩
  · simp only [List.length_map] at hc ⊢
    go_enter Tryz.func115, Tryz.ntmps115
    go_wp2
    go_loop [8] (fun i => ∃ k : Nat, k ≤ zs.length ∧ i = .int .i64 k ∧ ¬ x ∈ zs.take k) (fun i => zs.length - (intOf i).toNat)
    case atStart => exact ⟨0, Nat.zero_le _, rfl, by simp⟩
    case round =>
      obtain ⟨k, hk, rfl, hx⟩ := hrel
      by_cases hlt : k < zs.length
      · have hcell := hc k hlt
        simp only [List.getElem_map] at hcell
        go_wp2
        · have hz := mem_of_beq' hlt (by assumption)
          go_ret
          exact ⟨_, rfl, by simp [hz], rfl⟩
        · have hz := not_mem_take_succ' hlt hx (by assumption)
          go_round
          case rel => exact ⟨k + 1, by omega, by go_num, hz⟩
          case measure => simp [intOf]; omega
      · go_wp2
        go_ret
        have : zs.take k = zs := List.take_of_length_le (by omega)
        rw [this] at hx
        exact ⟨_, rfl, by simp [hx], rfl⟩

set_option maxHeartbeats 400000 in
theorem allInts_any (v : Value) (n : Nat) (m : Nat) (w : World) (hv : Sl w v (List.replicate n (Value.int .i64 (-1000 - m)))) (hs : n ≤ 4000000) (hm : m ≤ 4000000) :
    Calls Tryz.prog 58 #[v, .int .i64 m] w fun e w' => e = .returned (.bool true) ∧ w' = w := by
  rcases hv with ⟨a9, c9, rfl, hz⟩ | ⟨b, o, c, rfl, _, hc⟩
  · go_enter Tryz.func58, Tryz.ntmps58
    go_wp2
    refine wp_loop_rounds 1 ?_; rw [rounds_succ]; go_wp2
    go_ret
    exact ⟨rfl, rfl⟩
  · simp only [List.length_replicate, List.getElem_replicate] at hc ⊢
    go_enter Tryz.func58, Tryz.ntmps58
    go_wp2
    go_loop [5] (fun i => ∃ k : Nat, k ≤ n ∧ i = .int .i64 k) (fun i => n - (intOf i).toNat)
    case atStart => exact ⟨0, Nat.zero_le _, rfl⟩
    case round =>
      obtain ⟨k, hk, rfl⟩ := hrel
      by_cases hlt : k < n
      · have hcell := hc k hlt
        go_wp2
        go_round
        case rel => exact ⟨k + 1, by omega, by go_num⟩
        case measure => simp [intOf]; omega
      · go_wp2
        go_ret
        exact ⟨rfl, rfl⟩

set_option maxHeartbeats 400000 in
theorem sameInts_any (v u : Value) (zs : List Int) (w : World) (hv : Sl w v (zs.map (Value.int .i64))) (hu : Sl w u (zs.map (Value.int .i64))) (hs : zs.length ≤ 4000000) :
    Calls Tryz.prog 63 #[v, u] w fun e w' => e = .returned (.bool true) ∧ Bl w w' := by
  by_cases h0 : zs.length = 0
  · have hz : zs = [] := List.length_eq_zero_iff.1 h0
    subst hz
    obtain ⟨a, c, rfl⟩ := hv.empty
    obtain ⟨a', c', rfl⟩ := hu.empty
    go_enter Tryz.func63, Tryz.ntmps63
    go_wp2
    refine wp_loop_rounds 1 ?_; rw [rounds_succ]; go_wp2
    go_ret
    exact ⟨rfl, Bl.refl _⟩
  rcases hv with ⟨a9, c9, rfl, hz⟩ | ⟨b, o, c, rfl, hb, hc⟩
  · simp at hz; simp [hz] at h0
  · rcases hu with ⟨a9, c9, rfl, hz⟩ | ⟨b', o', c', rfl, hb', hc'⟩
    · simp at hz; simp [hz] at h0
    simp only [List.length_map] at hc hc' ⊢
    go_enter Tryz.func63, Tryz.ntmps63
    go_wp2
    go_loopw [5] (fun i wr => ∃ k : Nat, k ≤ zs.length ∧ i = .int .i64 k ∧ Bl w wr) (fun i _ => zs.length - (intOf i).toNat)
    case atStart => exact ⟨0, Nat.zero_le _, rfl, Bl.refl _⟩
    case round =>
      obtain ⟨k, hk, rfl, hbl⟩ := hrel
      by_cases hlt : k < zs.length
      · have hcell := (hbl.cell hb).trans (hc k hlt)
        have hcell' := (hbl.cell hb').trans (hc' k hlt)
        simp only [List.getElem_map] at hcell hcell'
        clear hc hc'
        have h1 : (k : Int) < (zs.length : Int) := by omega
        have h0 : (0 : Int) ≤ (k : Int) := by omega
        go_wp2
        go_quiet (fail)
        go_wp2
        go_roundw
        case rel => exact ⟨k + 1, by omega, by go_num, hbl.drewN _⟩
        case measure => simp [intOf]; omega
      · go_wp2
        go_ret
        exact ⟨rfl, hbl⟩
set_option maxHeartbeats 400000 in
theorem contains_any (v : Value) (zs : List Int) (x : Int) (w : World) (hv : Sl w v (zs.map (Value.int .i64))) (hs : zs.length ≤ 4000000) :
    Calls Tryz.prog 108 #[v, .int .i64 x] w fun e w' => e = .returned (.bool (decide (x ∈ zs))) ∧ w' = w := by
  go_enter Tryz.func108, Tryz.ntmps108
  go_wp2_with fail
  refine (index_any v zs x _ hv hs).mono ?_
  rintro e w' ⟨n, rfl, hn, rfl⟩
  go_wp2
  go_ret
  exact ⟨ret_bool (by simp), rfl⟩

set_option maxHeartbeats 400000 in
theorem allChains_any (v u : Value) (n : Nat) (zs : List Int) (w : World) (hv : Sl w v (List.replicate n u)) (hu : Sl w u (zs.map (Value.int .i64))) (hn : n ≤ 4000000) (hs : zs.length ≤ 4000000) :
    Calls Tryz.prog 59 #[v, u] w fun e w' => e = .returned (.bool true) ∧ Bl w w' := by
  by_cases h0 : n = 0
  · subst h0
    obtain ⟨a, c, rfl⟩ := hv.empty
    go_enter Tryz.func59, Tryz.ntmps59
    go_wp2
    refine wp_loop_rounds 1 ?_; rw [rounds_succ]; go_wp2
    go_ret
    exact ⟨rfl, Bl.refl _⟩
  rcases hv with ⟨a9, c9, rfl, hz⟩ | ⟨b, o, c, rfl, hb, hc⟩
  · simp at hz; omega
  simp only [List.length_replicate, List.getElem_replicate] at hc ⊢
  go_enter Tryz.func59, Tryz.ntmps59
  go_wp2
  go_loopw [5] (fun i wr => ∃ k : Nat, k ≤ n ∧ i = .int .i64 k ∧ Bl w wr) (fun i _ => n - (intOf i).toNat)
  case atStart => exact ⟨0, Nat.zero_le _, rfl, Bl.refl _⟩
  case round =>
    obtain ⟨k, hk, rfl, hbl⟩ := hrel
    by_cases hlt : k < n
    · have hcell := (hbl.cell hb).trans (hc k hlt)
      clear hc
      go_wp2_with fail
      refine (sameInts_any u u zs _ (hu.bl hbl) (hu.bl hbl) hs).mono ?_
      rintro e w' ⟨rfl, hbl'⟩
      go_wp2
      go_roundw
      case rel => exact ⟨k + 1, by omega, by go_num, hbl.trans hbl'⟩
      case measure => simp [intOf]; omega
    · go_wp2
      go_ret
      exact ⟨rfl, hbl⟩

end Go.Proofs.YtkgjpfamjedncaaGreat

namespace Go.Proofs.YtkgjpfamjedncaaGreat
open Go.RowKit

/-- A slice of slices of numbers that reads as xss. -/
def Sll (w : World) (v : Value) (xss : List (List Int)) : Prop :=
  ∃ ms, Sl w v ms ∧ ms.length = xss.length ∧ ∀ i (h : i < ms.length) (h' : i < xss.length), Sl w ms[i] (xss[i].map (Value.int .i64))

theorem Sll.bl {w w' : World} {v : Value} {xss : List (List Int)} (h : Sll w v xss) (hb : Bl w w') : Sll w' v xss := by
  obtain ⟨ms, h1, h2, h3⟩ := h
  exact ⟨ms, h1.bl hb, h2, fun i h h' => (h3 i h h').bl hb⟩

theorem Sll.empty {w : World} {v : Value} (h : Sll w v []) : ∃ a c, v = .slice a 0 c := by
  obtain ⟨ms, h1, h2, h3⟩ := h
  have : ms = [] := List.length_eq_zero_iff.1 h2
  subst this
  exact h1.empty

/-- What is known of a slice of slices that has a row at least. -/
theorem Sll.some {w : World} {v : Value} {xss : List (List Int)} (h : Sll w v xss) (h0 : 0 < xss.length) :
    ∃ b o c, v = .slice (some ⟨b, o, none⟩) xss.length c ∧ b < w.heap.size ∧ ∀ j, (h : j < xss.length) → ∃ m, w.cell? ⟨b, o + j, none⟩ = some m ∧ Sl w m (xss[j].map (Value.int .i64)) := by
  obtain ⟨ms, h1, h2, h3⟩ := h
  rcases h1 with ⟨a9, c9, rfl, hz⟩ | ⟨b, o, c, rfl, hb, hc⟩
  · simp [hz] at h2; omega
  · exact ⟨b, o, c, by rw [h2], hb, fun j hj => ⟨ms[j], hc j (by omega), h3 j _ _⟩⟩

set_option maxHeartbeats 400000 in
theorem sameLayout_any (v u : Value) (xss : List (List Int)) (w : World) (hv : Sll w v xss) (hu : Sll w u xss) (hn : xss.length ≤ 4000000) (hs : ∀ x ∈ xss, x.length ≤ 4000000) :
    Calls Tryz.prog 27 #[v, u] w fun e w' => e = .returned (.bool true) ∧ Bl w w' := by
  by_cases h0 : xss.length = 0
  · have hz : xss = [] := List.length_eq_zero_iff.1 h0
    subst hz
    obtain ⟨a, c, rfl⟩ := hv.empty
    obtain ⟨a', c', rfl⟩ := hu.empty
    go_enter Tryz.func27, Tryz.ntmps27
    go_wp2
    refine wp_loop_rounds 1 ?_; rw [rounds_succ]; go_wp2
    go_ret
    exact ⟨rfl, Bl.refl _⟩
  obtain ⟨b, o, c, rfl, hb, hc⟩ := hv.some (by omega)
  obtain ⟨b', o', c', rfl, hb', hc'⟩ := hu.some (by omega)
  clear hv hu
  go_enter Tryz.func27, Tryz.ntmps27
  go_wp2
  go_loopw [5] (fun i wr => ∃ k : Nat, k ≤ xss.length ∧ i = .int .i64 k ∧ Bl w wr) (fun i _ => xss.length - (intOf i).toNat)
  case atStart => exact ⟨0, Nat.zero_le _, rfl, Bl.refl _⟩
  case round =>
    obtain ⟨k, hk, rfl, hbl⟩ := hrel
    by_cases hlt : k < xss.length
    · obtain ⟨m, hm, hml⟩ := hc k hlt
      obtain ⟨m', hm', hml'⟩ := hc' k hlt
      have hcell := (hbl.cell hb).trans hm
      have hcell' := (hbl.cell hb').trans hm'
      have hz := hs _ (List.getElem_mem hlt)
      have h1 : (k : Int) < (xss.length : Int) := by omega
      have h0 : (0 : Int) ≤ (k : Int) := by omega
      have H1 : Hid (Sl wr m (xss[k].map (Value.int .i64))) := hml.bl hbl
      have H2 : Hid (Sl wr m' (xss[k].map (Value.int .i64))) := hml'.bl hbl
      clear hc hc' hm hm' hml hml'
      go_wp2
      go_region_with (go_at_call 63; refine (sameInts_any _ _ _ _ (by exact H1.out.bl ((Bl.refl _).drewN _)) (by exact H2.out.bl ((Bl.refl _).drewN _)) hz).mono ?_; rintro e w' ⟨rfl, hbl'⟩)
      go_wp2
      all_goals
        go_roundw
        case rel => exact ⟨k + 1, by omega, by go_num, hbl.trans (((Bl.refl _).drew).trans hbl')⟩
        case measure => simp [intOf]; omega
    · go_wp2
      go_ret
      exact ⟨rfl, hbl⟩
/-- Of the first k chains: does one of them hold the number; is one of them this number alone? -/
def anyHas (L : List (List Int)) (x : Int) : Bool := L.any fun c => decide (x ∈ c)
def anyOne (L : List (List Int)) (x : Int) : Bool := L.any fun c => decide (x ∈ c) && decide (c.length = 1)

theorem anyHas_succ (L : List (List Int)) (x : Int) (k : Nat) (h : k < L.length) : anyHas (L.take (k + 1)) x = (anyHas (L.take k) x || decide (x ∈ L[k])) := by
  unfold anyHas; rw [List.take_succ_eq_append_getElem h, List.any_append]; simp only [List.any_cons, List.any_nil, Bool.or_false]
theorem anyOne_succ (L : List (List Int)) (x : Int) (k : Nat) (h : k < L.length) : anyOne (L.take (k + 1)) x = (anyOne (L.take k) x || (decide (x ∈ L[k]) && decide (L[k].length = 1))) := by
  unfold anyOne; rw [List.take_succ_eq_append_getElem h, List.any_append]; simp only [List.any_cons, List.any_nil, Bool.or_false]

def leaves (L : List (List Int)) (x : Int) : Int := if anyHas L x = false then 3 else if anyOne L x = true then 4 else 0

set_option maxHeartbeats 1000000 in
theorem leavable_any (v : Value) (L : List (List Int)) (x : Int) (w : World) (hv : Sll w v L) (hn : L.length ≤ 4000000) (hs : ∀ c ∈ L, c.length ≤ 4000000) :
    Calls Tryz.prog 84 #[v, .int .i64 x] w fun e w' => e = .returned (.int .i64 (leaves L x)) ∧ w' = w := by
  by_cases h0 : L.length = 0
  · have hz : L = [] := List.length_eq_zero_iff.1 h0
    subst hz
    obtain ⟨a, c, rfl⟩ := hv.empty
    go_enter Tryz.func84, Tryz.ntmps84
    go_wp2
    refine wp_loop_rounds 1 ?_; rw [rounds_succ]; go_wp2
    go_ret
    exact ⟨rfl, rfl⟩
  obtain ⟨b, o, c, rfl, hb, hc⟩ := hv.some (by omega)
  clear hv
  go_enter Tryz.func84, Tryz.ntmps84
  go_wp2
  go_loop [5, 6, 12] (fun s l i => ∃ k : Nat, k ≤ L.length ∧ i = .int .i64 k ∧ s = .bool (anyHas (L.take k) x) ∧ l = .bool (anyOne (L.take k) x)) (fun _ _ i => L.length - (intOf i).toNat)
  case atStart => exact ⟨0, Nat.zero_le _, rfl, rfl, rfl⟩
  case round =>
    obtain ⟨k, hk, rfl, rfl, rfl⟩ := hrel
    by_cases hlt : k < L.length
    · obtain ⟨m, hm, hml⟩ := hc k hlt
      have hz := hs _ (List.getElem_mem hlt)
      have H1 := anyHas_succ L x k hlt
      have H2 := anyOne_succ L x k hlt
      obtain ⟨s', hs'⟩ : ∃ q, anyHas (L.take (k + 1)) x = q := ⟨_, rfl⟩
      obtain ⟨l', hl'⟩ : ∃ q, anyOne (L.take (k + 1)) x = q := ⟨_, rfl⟩
      rw [hs'] at H1; rw [hl'] at H2
      have HS : Hid (anyHas (L.take (k + 1)) x = s') := hs'
      have HL : Hid (anyOne (L.take (k + 1)) x = l') := hl'
      clear hs' hl'
      obtain ⟨a, c', hmv⟩ := hml.len
      simp only [List.length_map] at hmv
      have Hml : Hid (Sl w m (L[k].map (Value.int .i64))) := hml
      generalize hch : L[k] = ch at *
      clear hch hc hml hs
      subst hmv
      generalize anyHas (L.take k) x = s0 at *
      generalize anyOne (L.take k) x = l0 at *
      have hd : ((ch.length : Int) == 1) = decide (ch.length = 1) := by
        by_cases h : ch.length = 1
        · simp [h]
        · simp [h]; omega
      generalize decide (ch.length = 1) = q1 at *
      go_wp2_with fail
      refine (contains_any _ ch x _ Hml.out hz).mono ?_
      generalize decide (x ∈ ch) = q0 at *
      rintro e w' ⟨rfl, rfl⟩
      subst H1 H2
      cases s0 <;> cases l0 <;> cases q0 <;> cases q1
      all_goals
        go_wp2
        go_round
        case rel => exact ⟨k + 1, by omega, by go_num, by rw [HS.out]; rfl, by rw [HL.out]; rfl⟩
        case measure => simp [intOf]; omega
    · have ht : L.take k = L := List.take_of_length_le (by omega)
      rw [ht]
      have hl : Hid (leaves L x = if anyHas L x = false then 3 else if anyOne L x = true then 4 else 0) := rfl
      generalize anyHas L x = s0 at *
      generalize anyOne L x = l0 at *
      cases s0 <;> cases l0
      all_goals
        go_wp2
        go_ret
        refine ⟨?_, rfl⟩
        rw [hl.out]
        rfl

end Go.Proofs.YtkgjpfamjedncaaGreat

namespace Go.Proofs.YtkgjpfamjedncaaGreat
open Go.RowKit

theorem Tryz.info24 : (Tryz.prog.info? 24).map (fun i => (i.zero, i.size, i.bytes)) = some (some (.slice none 0 0), 1, 24) := by kernel_rfl

/-- Rows of numbers that the call owns, each in a block of its own, listed in a row g that it owns too. -/
structure Rowy (base : Nat) (w : World) (g n : Nat) (ms : List Value) (R : List (List Int)) : Prop where
  own : w.ownsRow base 24 1 (.slice (some ⟨g, 0, none⟩) n n) n ms
  len : R.length = n
  row : ∀ i (h : i < ms.length) (h' : i < R.length), w.ownsRow base 3 1 ms[i] R[i].length (R[i].map (Value.int .i64))
  apart : ∀ i j (hi : i < ms.length) (hj : j < ms.length) b, i ≠ j → ms[i].ownBlock = some b → ms[j].ownBlock ≠ some b

theorem Rowy.mlen {base : Nat} {w : World} {g n : Nat} {ms : List Value} {R : List (List Int)} (h : Rowy base w g n ms R) : ms.length = n := by
  have := h.own.1; omega

theorem Rowy.sll {base : Nat} {w : World} {g n : Nat} {ms : List Value} {R : List (List Int)} (h : Rowy base w g n ms R) : Sll w (.slice (some ⟨g, 0, none⟩) n n) R :=
  ⟨ms, ownsRow_sl h.own, by rw [h.mlen, h.len], fun i hi hi' => ownsRow_sl (h.row i hi hi')⟩

/-- Nothing that the rows own has turned. -/
theorem Rowy.only {S : Nat → Prop} {base : Nat} {w w' : World} {g n : Nat} {ms : List Value} {R : List (List Int)} (h : Rowy base w g n ms R) (ho : Only S w w') (hs : ∀ b, base ≤ b → b < w.heap.size → ¬ S b) : Rowy base w' g n ms R :=
  ⟨ho.owns h.own fun b hb => hs b (h.own.lt b hb).1 (h.own.lt b hb).2, h.len, fun i hi hi' => ho.owns (h.row i hi hi') fun b hb => hs b ((h.row i hi hi').lt b hb).1 ((h.row i hi hi').lt b hb).2, h.apart⟩
theorem Rowy.bl {base : Nat} {w w' : World} {g n : Nat} {ms : List Value} {R : List (List Int)} (h : Rowy base w g n ms R) (ho : Bl w w') : Rowy base w' g n ms R :=
  h.only (Only.of_bl (S := fun _ => False) ho) fun _ _ _ e => e

/-- One row k is appended to, and stored. -/
theorem Rowy.push {base : Nat} {w w1 : World} {g n : Nat} {ms : List Value} {R : List (List Int)} (h : Rowy base w g n ms R) {k : Nat} (hk : k < n) (hkm : k < ms.length) (hkR : k < R.length) {g' c : Nat} {x : Int}
    (hg : w.grownBy w1 ms[k].ownBlock) (hv : ms[k].ownBlock = some g' ∨ w.heap.size ≤ g') (ho : w1.ownsRow base 3 1 (.slice (some ⟨g', 0, none⟩) (R[k].length + 1) c) (R[k].length + 1) (R[k].map (Value.int .i64) ++ [.int .i64 x])) :
    Rowy base (w1.setCell ⟨g, k, none⟩ (.slice (some ⟨g', 0, none⟩) (R[k].length + 1) c)) g n (ms.set k (.slice (some ⟨g', 0, none⟩) (R[k].length + 1) c)) (R.set k (R[k] ++ [x])) := by
  have hgrow := Only.of_grown hg
  have hown1 : w1.ownsRow base 24 1 (.slice (some ⟨g, 0, none⟩) n n) n ms := hgrow.owns h.own fun b hb e => ownsRow_type h.own (h.row k hkm hkR) (by decide) b hb e.symm
  obtain ⟨hst, hgr⟩ := hown1.stored k (.slice (some ⟨g', 0, none⟩) (R[k].length + 1) c)
  have hgr' := Only.of_grown hgr
  have hgne : ∀ b, (Value.slice (some ⟨g', 0, none⟩) (R[k].length + 1) c).ownBlock = some b → ¬ some b = some g := by
    intro b hb e
    exact ownsRow_type ho hown1 (by decide) b hb (by simp [Value.ownBlock]; simpa using e.symm)
  refine ⟨hst, by simpa using h.len, fun i hi hi' => ?_, fun i j hi hj b hij hb => ?_⟩
  · simp only [List.length_set] at hi hi'
    by_cases hik : i = k
    · subst hik
      simp only [List.getElem_set_self]
      have := hgr'.owns ho (fun b hb => hgne b hb)
      simpa using this
    · rw [List.getElem_set_ne (by omega), List.getElem_set_ne (by omega)]
      have hr := h.row i hi hi'
      have hr1 := hgrow.owns hr fun b hb e => h.apart i k hi hkm b hik hb e.symm
      exact hgr'.owns hr1 fun b hb e => ownsRow_type hr1 hown1 (by decide) b hb (by simp [Value.ownBlock]; simpa using e.symm)
  · have hi2 : i < ms.length := by simpa using hi
    have hj2 : j < ms.length := by simpa using hj
    by_cases hik : i = k
    · subst hik
      rw [List.getElem_set_self] at hb
      rw [List.getElem_set_ne (by omega)]
      simp [Value.ownBlock] at hb
      subst hb
      intro e
      rcases hv with hv | hv
      · exact h.apart i j hkm hj2 g' hij hv e
      · have := (h.row j hj2 (by rw [h.len, ← h.mlen]; exact hj2)).lt _ e; omega
    · rw [List.getElem_set_ne (by omega)] at hb
      by_cases hjk : j = k
      · subst hjk
        rw [List.getElem_set_self]
        intro e
        simp [Value.ownBlock] at e
        subst e
        rcases hv with hv | hv
        · exact h.apart i j hi2 hkm g' hij hb hv
        · have := (h.row i hi2 (by rw [h.len, ← h.mlen]; exact hi2)).lt _ hb; omega
      · rw [List.getElem_set_ne (by omega)]
        exact h.apart i j hi2 hj2 b hij hb

end Go.Proofs.YtkgjpfamjedncaaGreat
