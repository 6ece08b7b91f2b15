/-
  Next of the document.
-/
import Derived.Test.YtkgjpfamjedncaaGreatNext
namespace Go.Proofs.YtkgjpfamjedncaaGreat
open Go.RowKit

theorem hid {p : Prop} (h : p) : Hid p := h

def thB (L : List (List Int)) (x : Int) : Bool := if x = -1 then true else anyHas L x
def laB (L : List (List Int)) (x : Int) : Bool := if x = -1 then false else anyOne L x

theorem nerr3 {L : List (List Int)} {x : Int} (zs : List Int) (h : thB L x = false) : nerr L x zs = 3 ∧ nres L x zs = [] := by
  have h1 : nerr L x zs = 3 := by
    unfold thB at h
    by_cases hx : x = -1
    · simp [hx] at h
    · simp [hx] at h; simp [nerr, hx, leaves, h]
  exact ⟨h1, by simp [nres, h1]⟩
theorem nerr4 {L : List (List Int)} {x : Int} (zs : List Int) (h : thB L x = true) (h' : laB L x = true) : nerr L x zs = 4 ∧ nres L x zs = [] := by
  have h1 : nerr L x zs = 4 := by
    unfold thB at h; unfold laB at h'
    by_cases hx : x = -1
    · simp [hx] at h'
    · simp [hx] at h h'; simp [nerr, hx, leaves, h, h']
  exact ⟨h1, by simp [nres, h1]⟩
theorem nerr0 {L : List (List Int)} {x : Int} (zs : List Int) (h : thB L x = true) (h' : laB L x = false) : nerr L x zs = if sealedAll (L.map (rm x)) zs = true then 0 else 5 := by
  unfold thB at h; unfold laB at h'
  by_cases hx : x = -1
  · simp [nerr, hx]
  · simp [hx] at h h'; simp [nerr, leaves, h, h']

theorem keep_yes2 {x u : Int} (h : keepIt x u = true) : (u == x) = false ∨ ((u == x) = true ∧ (x != -1) = false) := by
  simp [keepIt] at h ⊢; omega
def hasB (c zs : List Int) : Bool := c.any fun u => decide (u ∈ zs)
theorem nerr5 {L : List (List Int)} {x : Int} {zs : List Int} (h : nerr L x zs = if sealedAll (L.map (rm x)) zs = true then 0 else 5) {c : List Int} (hc : c ∈ L) (hb : hasB (rm x c) zs = false) : nerr L x zs = 5 ∧ nres L x zs = [] := by
  have h0 : sealedAll (L.map (rm x)) zs = false := by
    unfold sealedAll
    rw [List.all_eq_false]
    exact ⟨rm x c, List.mem_map.2 ⟨c, hc, rfl⟩, by unfold hasB at hb; simp [hb]⟩
  have h1 : nerr L x zs = 5 := by rw [h, h0]; rfl
  exact ⟨h1, by simp [nres, h1]⟩
theorem nerrOk {L : List (List Int)} {x : Int} {zs : List Int} (h : nerr L x zs = if sealedAll (L.map (rm x)) zs = true then 0 else 5) (hb : ∀ c ∈ L, hasB (rm x c) zs = true) : nerr L x zs = 0 ∧ nres L x zs = L.map (rm x) := by
  have h0 : sealedAll (L.map (rm x)) zs = true := by
    unfold sealedAll
    rw [List.all_eq_true]
    intro c hc
    obtain ⟨d, hd, rfl⟩ := List.mem_map.1 hc
    exact hb d hd
  have h1 : nerr L x zs = 0 := by rw [h, h0]; rfl
  exact ⟨h1, by simp [nres, h1]⟩
theorem hasB_snoc (c zs : List Int) (u : Int) : hasB (c ++ [u]) zs = (hasB c zs || decide (u ∈ zs)) := by
  unfold hasB; rw [List.any_append]; simp only [List.any_cons, List.any_nil, Bool.or_false]

theorem owns_oneCell {w : World} {base : Nat} {e : TypeId} {size : Nat} {v : Value} {n : Nat} {xs : List Value} (h : w.ownsRow base e size v n xs) : v.oneCell' = true := by
  rcases h.2 with ⟨rfl, _⟩ | ⟨g, cap, cur, rfl, _⟩ <;> rfl

/-- Rows of numbers that were gathered, in a list that may grow. -/
structure Gath (base : Nat) (w : World) (v : Value) (n : Nat) (ms : List Value) (R : List (List Int)) : Prop where
  own : w.ownsRow base 24 1 v n ms
  len : R.length = n
  row : ∀ i (h : i < ms.length) (h' : i < R.length), w.ownsRow base 3 1 ms[i] R[i].length (R[i].map (Value.int .i64))

theorem Gath.mlen {base : Nat} {w : World} {v : Value} {n : Nat} {ms : List Value} {R : List (List Int)} (h : Gath base w v n ms R) : ms.length = n := ownsRow_len h.own
theorem Gath.bl {base : Nat} {w w' : World} {v : Value} {n : Nat} {ms : List Value} {R : List (List Int)} (h : Gath base w v n ms R) (hb : Bl w w') : Gath base w' v n ms R :=
  have ho : Only (fun _ => False) w w' := Only.of_bl hb
  ⟨ho.owns h.own fun _ _ e => e, h.len, fun i hi hi' => ho.owns (h.row i hi hi') fun _ _ e => e⟩
theorem Gath.sll {base : Nat} {w : World} {v : Value} {n : Nat} {ms : List Value} {R : List (List Int)} (h : Gath base w v n ms R) : Sll w v R :=
  ⟨ms, ownsRow_sl h.own, by rw [h.mlen, h.len], fun i hi hi' => ownsRow_sl (h.row i hi hi')⟩
theorem Gath.snoc {base : Nat} {w w1 : World} {v v' : Value} {n : Nat} {ms : List Value} {R : List (List Int)} (h : Gath base w v n ms R) {m : Value} {r : List Int} (hr : w.ownsRow base 3 1 m r.length (r.map (Value.int .i64)))
    (hg : w.grownBy w1 v.ownBlock) (ho : w1.ownsRow base 24 1 v' (n + 1) (ms ++ [m])) : Gath base w1 v' (n + 1) (ms ++ [m]) (R ++ [r]) := by
  have hgrow := Only.of_grown hg
  refine ⟨ho, by simp [h.len], fun i hi hi' => ?_⟩
  by_cases e : i < ms.length
  · rw [List.getElem_append_left e, List.getElem_append_left (by rw [h.len, ← h.mlen]; exact e)]
    have hri := h.row i e (by rw [h.len, ← h.mlen]; exact e)
    exact hgrow.owns hri fun b hb e' => ownsRow_type hri h.own (by decide) b hb e'.symm
  · simp at hi hi'
    have e1 : i = ms.length := by omega
    subst e1
    have e2 : R.length = ms.length := by rw [h.len, h.mlen]
    rw [List.getElem_append_right (by omega), List.getElem_append_right (by omega)]
    simp only [Nat.sub_self, List.getElem_cons_zero, e2]
    exact hgrow.owns hr fun b hb e' => ownsRow_type hr h.own (by decide) b hb e'.symm

set_option maxHeartbeats 4000000 in
theorem refNext_any (v u : Value) (L : List (List Int)) (x : Int) (zs : List Int) (w : World) (hv : Sll w v L) (hu : Sl w u (zs.map (Value.int .i64))) (hn : L.length ≤ 4000000) (hs : ∀ c ∈ L, c.length ≤ 4000000) (hz : zs.length ≤ 4000000) :
    Calls Tryz.prog 26 #[v, .int .i64 x, u] w fun e w' => ∃ r, e = .returned (.tuple #[r, .int .i64 (nerr L x zs)]) ∧ Bl w w' ∧ Sll w' r (nres L x zs) := by
  obtain ⟨i24, hi, hz0, hz1, hz2⟩ := info_parts Tryz.info24
  obtain ⟨i3, ji, jz0, jz1, jz2⟩ := info_parts Tryz.info3
  obtain ⟨a2, c2, hv1⟩ := hv.len
  subst hv1
  have Hu : Hid (Sl w u (zs.map (Value.int .i64))) := hu
  have Hv : Hid (Sll w (.slice a2 L.length c2) L) := hv
  have HL : Hid (∀ c ∈ L, c.length ≤ 4000000) := hs
  clear hu hv hs
  go_enter Tryz.func26, Tryz.ntmps26
  go_wp2
  go_loop [8, 9, 10] (fun t l i => ∃ k : Nat, k ≤ L.length ∧ i = .int .i64 k ∧ t = .bool (thB (L.take k) x) ∧ l = .bool (laB (L.take k) x)) (fun _ _ i => L.length - (intOf i).toNat)
  case atStart =>
    refine ⟨0, Nat.zero_le _, rfl, ?_, ?_⟩
    · simp [thB, anyHas]; by_cases h : x = -1 <;> simp [h]
    · simp [laB, anyOne]
  case round =>
    obtain ⟨k, hk, rfl, rfl, rfl⟩ := hrel
    by_cases hlt : k < L.length
    · obtain ⟨b2, o2, c2', hv2, hb2, hc2⟩ := Hv.out.some (by omega)
      obtain ⟨m, hm, hml⟩ := hc2 k hlt
      simp only [Value.slice.injEq] at hv2
      obtain ⟨rfl, hlx, rfl⟩ := hv2
      clear hlx hc2
      have hz := HL.out _ (List.getElem_mem hlt)
      have H1 := anyHas_succ L x k hlt
      have H2 := anyOne_succ L x k hlt
      have HT : Hid (thB (L.take (k + 1)) x = (thB (L.take k) x || (decide (x ∈ L[k]) && decide (x ≠ -1)))) := by
        unfold Hid thB; rw [H1]; by_cases h : x = -1 <;> simp [h]
      have HA : Hid (laB (L.take (k + 1)) x = (laB (L.take k) x || (decide (x ∈ L[k]) && decide (x ≠ -1) && decide (L[k].length = 1)))) := by
        unfold Hid laB; rw [H2]; by_cases h : x = -1 <;> simp [h]
      clear H1 H2
      obtain ⟨a, c', hmv⟩ := hml.len
      simp only [List.length_map] at hmv
      have Hml : Hid (Sl w m (L[k].map (Value.int .i64))) := hml
      clear hml
      generalize L[k] = ch at *
      subst hmv
      generalize thB (L.take k) x = s0 at *
      generalize laB (L.take k) x = l0 at *
      have hd : ((ch.length : Int) == 1) = decide (ch.length = 1) := by
        by_cases h : ch.length = 1
        · simp [h]
        · simp [h]; omega
      have hx : (x != -1) = decide (x ≠ -1) := by by_cases h : x = -1 <;> simp [h]
      generalize decide (ch.length = 1) = q1 at *
      generalize decide (x ≠ -1) = q2 at *
      go_wp2_with fail
      refine (within_any _ ch x _ Hml.out hz).mono ?_
      generalize decide (x ∈ ch) = q0 at *
      rintro e w' ⟨rfl, rfl⟩
      cases s0 <;> cases l0 <;> cases q0 <;> cases q1 <;> cases q2
      all_goals
        go_wp2
        go_round
        case rel => exact ⟨k + 1, by omega, by go_num, by rw [HT.out]; rfl, by rw [HA.out]; rfl⟩
        case measure => simp [intOf]; omega
    · have ht : L.take k = L := List.take_of_length_le (by omega)
      rw [ht]
      cases hth : thB L x
      · have HF := hid (nerr3 zs hth)
        clear hth
        go_wp2
        go_ret2
        exact ⟨_, by rw [HF.out.1]; rfl, Bl.refl _, by rw [HF.out.2]; exact ⟨[], .inl ⟨_, _, rfl, rfl⟩, rfl, fun i h => by simp at h⟩⟩
      cases hla : laB L x
      case true =>
        have HF := hid (nerr4 zs hth hla)
        clear hth hla
        go_wp2
        go_ret2
        exact ⟨_, by rw [HF.out.1]; rfl, Bl.refl _, by rw [HF.out.2]; exact ⟨[], .inl ⟨_, _, rfl, rfl⟩, rfl, fun i h => by simp at h⟩⟩
      case false =>
        have Hne := hid (nerr0 zs hth hla)
        clear hth hla ht
        go_wp2
        go_loopw [12, 13] (fun nv i wr => ∃ (k : Nat) (ms : List Value), k ≤ L.length ∧ i = .int .i64 k ∧ Bl w wr ∧ Gath w.heap.size wr nv k ms ((L.take k).map (rm x)) ∧ ∀ c ∈ L.take k, hasB (rm x c) zs = true) (fun _ i _ => L.length - (intOf i).toNat)
        case atStart =>
          exact ⟨0, [], Nat.zero_le _, rfl, (Bl.refl _).alloc _, ⟨World.ownsRow_lit w #[] 0 (Nat.le_refl _) (by unfold maxLen; omega) rfl, by simp, fun i h => by simp at h⟩, by simp⟩
        case round =>
          obtain ⟨wo, rfl⟩ : ∃ wo, wo = wr := ⟨_, rfl⟩
          obtain ⟨k1, ms, hk1, rfl, hbl, hG, hall⟩ := hrel
          have HG := hid (hG)
          have Hall := hid (hall)
          clear hG hall
          by_cases hlt1 : k1 < L.length
          · obtain ⟨b2, o2, c2', hv2, hb2, hc2⟩ := Hv.out.some (by omega)
            obtain ⟨m, hm, hml⟩ := hc2 k1 hlt1
            simp only [Value.slice.injEq] at hv2
            obtain ⟨rfl, hlx, rfl⟩ := hv2
            clear hlx hc2
            have hzc := HL.out _ (List.getElem_mem hlt1)
            have Ht : Hid (L.take (k1 + 1) = L.take k1 ++ [L[k1]]) := List.take_succ_eq_append_getElem hlt1
            have Hmem : Hid (L[k1] ∈ L) := List.getElem_mem hlt1
            obtain ⟨a, c', hmv⟩ := hml.len
            simp only [List.length_map] at hmv
            have Hml : Hid (Sl w m (L[k1].map (Value.int .i64))) := hml
            clear hml
            generalize L[k1] = ch at *
            subst hmv
            have hcm := (hbl.cell hb2).trans hm
            have Hm := hid (hm)
            clear hm
            go_wp2
            go_loopw [14, 15, 16] (fun ok cv j wy => ∃ n : Nat, n ≤ ch.length ∧ j = .int .i64 n ∧ ok = .bool (hasB (rm x (ch.take n)) zs) ∧ Bl wo wy ∧ wy.ownsRow wo.heap.size 3 1 cv (rm x (ch.take n)).length ((rm x (ch.take n)).map (Value.int .i64))) (fun _ _ j _ => ch.length - (intOf j).toNat)
            case atStart => exact ⟨0, Nat.zero_le _, rfl, rfl, (Bl.refl _).alloc _, World.ownsRow_lit wo #[] 0 (Nat.le_refl _) (by unfold maxLen; omega) rfl⟩
            case round =>
              clear hcm
              obtain ⟨n, hn1, rfl, rfl, hbi, hown⟩ := hrel
              have hbl2 := hbl.trans hbi
              have hcm := (hbl2.cell hb2).trans Hm.out
              by_cases hlt2 : n < ch.length
              · rcases Hml.out with ⟨a9, c9, hv0, hz0⟩ | ⟨b1, o1, c1, hv1, hb1, hc1⟩
                · simp at hz0; simp [hz0] at hlt2
                have hcj := (hbl2.cell hb1).trans (hc1 n (by simpa using hlt2))
                simp only [List.getElem_map] at hcj
                simp only [Value.slice.injEq] at hv1
                obtain ⟨rfl, hlx, rfl⟩ := hv1
                clear hlx hc1
                have Hown := hid (hown)
                clear hown
                cases hkp : keepIt x ch[n]
                · have hrm : Hid (rm x (ch.take (n + 1)) = rm x (ch.take n)) := rm_succ_no x ch n hlt2 hkp
                  have hno := keep_no hkp
                  obtain ⟨hx1, hx2⟩ := hno
                  have hx3 : (ch[n] == x) = true := by simpa using hx2
                  have hx4 : (x != -1) = true := by simpa using hx1
                  clear hkp hx2
                  obtain ⟨ok0, Hok⟩ : ∃ q, Hid (hasB (rm x (ch.take n)) zs = q) := ⟨_, rfl⟩
                  rw [Hok.out]
                  go_wp2
                  go_roundw
                  case rel => exact ⟨n + 1, by omega, by go_num, by rw [hrm.out, Hok.out], hbi, by rw [hrm.out]; exact Hown.out⟩
                  case measure => simp [intOf]; omega
                · have hrm : Hid (rm x (ch.take (n + 1)) = rm x (ch.take n) ++ [ch[n]]) := rm_succ_yes x ch n hlt2 hkp
                  have hya := keep_yes2 hkp
                  have hlen := rm_len x ch n
                  clear hkp
                  obtain ⟨ok0, Hok⟩ : ∃ q, Hid (hasB (rm x (ch.take n)) zs = q) := ⟨_, rfl⟩
                  rw [Hok.out]
                  generalize rm x (ch.take n) = rr at *
                  have hby : Hid ((rr.length + 1) * 8 ≤ 140737488355328) := by unfold Hid; omega
                  have hml : Hid (rr.length + 1 ≤ maxLen) := by unfold Hid maxLen; omega
                  have hlt0 := hbi.lt
                  rcases hya with hx1 | ⟨hx1, hx2⟩
                  all_goals
                    go_wp2_with (first | (at_builtin; refine wpList_append_lies _ rfl _ _ 24 rfl wo.heap.size 3 i3 (.int .i64 0) 1 8 Tryz.underlying24 ji jz0 jz1 jz2 rfl (by decide) _ rr.length _ rfl (Hown.out.alloc _) ⟨wr.heap.size, 0, none⟩ 1 1 [.int .i64 ch[n]] rfl rfl (cell_one_new _ _ _) (by simp [Value.oneCell']) (by decide) hml.out hby.out (by simp; omega) (wr.heap.size + 1) (by simp) ?_))
                    intro g' cap w1 hown' hgrow hat hlt'
                    have hb1 : Hid (Bl wo w1) := (hbi.alloc _).trans_only (Only.of_grown hgrow) (fun b hb => (Hown.out.lt b hb.symm).1)
                    have Hown' := hid (hown')
                    clear hown' hgrow hat Hown
                    go_wp2_with fail
                    refine (within_any u zs ch[n] _ (Hu.out.bl (hbl.trans hb1.out)) hz).mono ?_
                    rintro e w2 ⟨rfl, rfl⟩
                    obtain ⟨q0, Hq⟩ : ∃ q, Hid (decide (ch[n] ∈ zs) = q) := ⟨_, hid rfl⟩
                    rw [Hq.out]
                    cases ok0 <;> cases q0
                    all_goals
                      go_wp2
                      go_roundw
                      case rel => exact ⟨n + 1, by omega, by go_num, by rw [hrm.out, hasB_snoc, Hok.out, Hq.out]; rfl, hb1.out, by rw [hrm.out, List.length_append, List.map_append]; exact Hown'.out⟩
                      case measure => simp [intOf]; omega
              · have hte : ch.take n = ch := List.take_of_length_le (by omega)
                rw [hte] at hown
                rw [hte]
                have Hown := hid (hown)
                clear hown hte
                cases hok : hasB (rm x ch) zs
                · have HF := hid (nerr5 Hne.out Hmem.out hok)
                  clear hok
                  go_wp2
                  go_ret2
                  exact ⟨_, by rw [HF.out.1]; rfl, hbl2, by rw [HF.out.2]; exact ⟨[], .inl ⟨_, _, rfl, rfl⟩, rfl, fun i h => by simp at h⟩⟩
                · have Hok := hid (hok)
                  clear hok
                  obtain ⟨a5, c5, h5⟩ := (ownsRow_sl Hown.out).len
                  simp only [List.length_map] at h5
                  subst h5
                  have HG2 := hid ((HG.out.bl hbi).bl ((Bl.refl _).alloc (.cells #[.slice a5 (rm x ch).length c5] 24)))
                  have hby : Hid ((k1 + 1) * 24 ≤ 140737488355328) := by unfold Hid; omega
                  have hml : Hid (k1 + 1 ≤ maxLen) := by unfold Hid maxLen; omega
                  have hlt0 := hbl2.lt
                  have hone := hid (owns_oneCell Hown.out)
                  have HR2 := hid (ownsRow_base (Hown.out.alloc (.cells #[.slice a5 (rm x ch).length c5] 24)) (fun b hb => Nat.le_trans hbl.lt (Hown.out.lt b hb).1))
                  go_wp2_with (first | (at_builtin; refine wpList_append_lies _ rfl _ _ 39 rfl w.heap.size 24 i24 (.slice none 0 0) 1 24 Tryz.underlying39 hi hz0 hz1 hz2 rfl (by decide) _ k1 _ rfl HG2.out.own ⟨wr.heap.size, 0, none⟩ 1 1 [.slice a5 (rm x ch).length c5] rfl rfl (cell_one_new _ _ _) (by simpa using hone.out) (by decide) hml.out hby.out (by simp; omega) (wr.heap.size + 1) (by simp) ?_))
                  intro g' cap w1 hown' hgrow hat hlt'
                  have HG3 := hid (HG2.out.snoc HR2.out hgrow hown')
                  have hb1 := hid ((hbl2.alloc (.cells #[.slice a5 (rm x ch).length c5] 24)).trans_only (Only.of_grown hgrow) (fun b hb => (HG2.out.own.lt b hb.symm).1))
                  clear hown' hgrow hat HG2 HR2 Hown
                  go_wp2
                  go_roundw
                  case rel =>
                    refine ⟨k1 + 1, _, by omega, by go_num, hb1.out, by rw [Ht.out, List.map_append]; exact HG3.out, ?_⟩
                    rw [Ht.out]
                    intro y hy
                    rcases List.mem_append.1 hy with hy | hy
                    · exact Hall.out y hy
                    · simp at hy; subst hy; exact Hok.out
                  case measure => simp [intOf]; omega
          · have hte : L.take k1 = L := List.take_of_length_le (by omega)
            have HF := hid (nerrOk Hne.out (by have := Hall.out; rw [hte] at this; exact this))
            have HS := hid HG.out.sll
            rw [hte] at HS
            clear hte
            go_wp2
            go_ret2
            exact ⟨_, by rw [HF.out.1]; rfl, hbl, by rw [HF.out.2]; exact HS.out⟩
end Go.Proofs.YtkgjpfamjedncaaGreat
