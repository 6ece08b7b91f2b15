/-
  Next of the document.
-/
/-
  Lists that are lent to the program.
-/
/-
  Lists that come back from the program.
-/
/-
  Layouts that are lent.
-/
import Derived.Test.YtkgjpfamjedncaaGreatLWithoutLSealedLNextQ
import Derived.Laws.CopyOwn
namespace Go.Proofs.YtkgjpfamjedncaaGreat
open Go.RowKit

def thB (L : List (List Int)) (x : Int) : Bool := if x = -1 then true else anyHas L x
def laB (L : List (List Int)) (x : Int) : Bool := if x = -1 then false else anyOne L x

theorem nerr3 {L : List (List Int)} {x : Int} (zs : List Int) (h : thB L x = false) : nerr L x zs = 3 ∧ nres L x zs = [] := by
  have h1 : nerr L x zs = 3 := by
    unfold thB at h
    by_cases hx : x = -1
    · simp [hx] at h
    · simp [hx] at h; simp [nerr, hx, leaves, h]
  exact ⟨h1, by simp [nres, h1]⟩
theorem nerr4 {L : List (List Int)} {x : Int} (zs : List Int) (h : thB L x = true) (h' : laB L x = true) : nerr L x zs = 4 ∧ nres L x zs = [] := by
  have h1 : nerr L x zs = 4 := by
    unfold thB at h; unfold laB at h'
    by_cases hx : x = -1
    · simp [hx] at h'
    · simp [hx] at h h'; simp [nerr, hx, leaves, h, h']
  exact ⟨h1, by simp [nres, h1]⟩
theorem nerr0 {L : List (List Int)} {x : Int} (zs : List Int) (h : thB L x = true) (h' : laB L x = false) : nerr L x zs = if sealedAll (L.map (rm x)) zs = true then 0 else 5 := by
  unfold thB at h; unfold laB at h'
  by_cases hx : x = -1
  · simp [nerr, hx]
  · simp [hx] at h h'; simp [nerr, leaves, h, h']

theorem keep_yes2 {x u : Int} (h : keepIt x u = true) : (u == x) = false ∨ ((u == x) = true ∧ (x != -1) = false) := by
  simp [keepIt] at h ⊢; omega
def hasB (c zs : List Int) : Bool := c.any fun u => decide (u ∈ zs)
theorem nerr5 {L : List (List Int)} {x : Int} {zs : List Int} (h : nerr L x zs = if sealedAll (L.map (rm x)) zs = true then 0 else 5) {c : List Int} (hc : c ∈ L) (hb : hasB (rm x c) zs = false) : nerr L x zs = 5 ∧ nres L x zs = [] := by
  have h0 : sealedAll (L.map (rm x)) zs = false := by
    unfold sealedAll
    rw [List.all_eq_false]
    exact ⟨rm x c, List.mem_map.2 ⟨c, hc, rfl⟩, by unfold hasB at hb; simp [hb]⟩
  have h1 : nerr L x zs = 5 := by rw [h, h0]; rfl
  exact ⟨h1, by simp [nres, h1]⟩
theorem nerrOk {L : List (List Int)} {x : Int} {zs : List Int} (h : nerr L x zs = if sealedAll (L.map (rm x)) zs = true then 0 else 5) (hb : ∀ c ∈ L, hasB (rm x c) zs = true) : nerr L x zs = 0 ∧ nres L x zs = L.map (rm x) := by
  have h0 : sealedAll (L.map (rm x)) zs = true := by
    unfold sealedAll
    rw [List.all_eq_true]
    intro c hc
    obtain ⟨d, hd, rfl⟩ := List.mem_map.1 hc
    exact hb d hd
  have h1 : nerr L x zs = 0 := by rw [h, h0]; rfl
  exact ⟨h1, by simp [nres, h1]⟩
theorem hasB_snoc (c zs : List Int) (u : Int) : hasB (c ++ [u]) zs = (hasB c zs || decide (u ∈ zs)) := by
  unfold hasB; rw [List.any_append]; simp only [List.any_cons, List.any_nil, Bool.or_false]

/-- Rows of numbers that were gathered, in a list that may grow. -/
structure Gath (base : Nat) (w : World) (v : Value) (n : Nat) (ms : List Value) (R : List (List Int)) : Prop where
  own : w.ownsRow base 24 1 v n ms
  len : R.length = n
  row : ∀ i (h : i < ms.length) (h' : i < R.length), w.ownsRow base 3 1 ms[i] R[i].length (R[i].map (Value.int .i64))

theorem Gath.mlen {base : Nat} {w : World} {v : Value} {n : Nat} {ms : List Value} {R : List (List Int)} (h : Gath base w v n ms R) : ms.length = n := ownsRow_len h.own
theorem Gath.bl {base : Nat} {w w' : World} {v : Value} {n : Nat} {ms : List Value} {R : List (List Int)} (h : Gath base w v n ms R) (hb : Bl w w') : Gath base w' v n ms R :=
  have ho : Only (fun _ => False) w w' := Only.of_bl hb
  ⟨ho.owns h.own fun _ _ e => e, h.len, fun i hi hi' => ho.owns (h.row i hi hi') fun _ _ e => e⟩
theorem Gath.sll {base : Nat} {w : World} {v : Value} {n : Nat} {ms : List Value} {R : List (List Int)} (h : Gath base w v n ms R) : Sll w v R :=
  ⟨ms, ownsRow_sl h.own, by rw [h.mlen, h.len], fun i hi hi' => ownsRow_sl (h.row i hi hi')⟩
theorem Gath.snoc {base : Nat} {w w1 : World} {v v' : Value} {n : Nat} {ms : List Value} {R : List (List Int)} (h : Gath base w v n ms R) {m : Value} {r : List Int} (hr : w.ownsRow base 3 1 m r.length (r.map (Value.int .i64)))
    (hg : w.grownBy w1 v.ownBlock) (ho : w1.ownsRow base 24 1 v' (n + 1) (ms ++ [m])) : Gath base w1 v' (n + 1) (ms ++ [m]) (R ++ [r]) := by
  have hgrow := Only.of_grown hg
  refine ⟨ho, by simp [h.len], fun i hi hi' => ?_⟩
  by_cases e : i < ms.length
  · rw [List.getElem_append_left e, List.getElem_append_left (by rw [h.len, ← h.mlen]; exact e)]
    have hri := h.row i e (by rw [h.len, ← h.mlen]; exact e)
    exact hgrow.owns hri fun b hb e' => ownsRow_type hri h.own (by decide) b hb e'.symm
  · simp at hi hi'
    have e1 : i = ms.length := by omega
    subst e1
    have e2 : R.length = ms.length := by rw [h.len, h.mlen]
    rw [List.getElem_append_right (by omega), List.getElem_append_right (by omega)]
    simp only [Nat.sub_self, List.getElem_cons_zero, e2]
    exact hgrow.owns hr fun b hb e' => ownsRow_type hr h.own (by decide) b hb e'.symm

set_option maxHeartbeats 4000000 in
theorem refNext_any (v u : Value) (L : List (List Int)) (x : Int) (zs : List Int) (w : World) (hv : Sll w v L) (hu : Sl w u (zs.map (Value.int .i64))) (hn : L.length ≤ 4000000) (hs : ∀ c ∈ L, c.length ≤ 4000000) (hz : zs.length ≤ 4000000) :
    Calls Tryz.prog 26 #[v, .int .i64 x, u] w fun e w' => ∃ r, e = .returned (.tuple #[r, .int .i64 (nerr L x zs)]) ∧ Bl w w' ∧ Sll w' r (nres L x zs) := by
  obtain ⟨i24, hi, hz0, hz1, hz2⟩ := info_parts Tryz.info24
  obtain ⟨i3, ji, jz0, jz1, jz2⟩ := info_parts Tryz.info3
  obtain ⟨a2, c2, hv1⟩ := hv.len
  subst hv1
  have Hu : Hid (Sl w u (zs.map (Value.int .i64))) := hu
  have Hv : Hid (Sll w (.slice a2 L.length c2) L) := hv
  have HL : Hid (∀ c ∈ L, c.length ≤ 4000000) := hs
  clear hu hv hs
  go_enter Tryz.func26, Tryz.ntmps26
  go_wp2
  go_loop [8, 9, 10] (fun t l i => ∃ k : Nat, k ≤ L.length ∧ i = .int .i64 k ∧ t = .bool (thB (L.take k) x) ∧ l = .bool (laB (L.take k) x)) (fun _ _ i => L.length - (intOf i).toNat)
  case atStart =>
    refine ⟨0, Nat.zero_le _, rfl, ?_, ?_⟩
    · simp [thB, anyHas]; by_cases h : x = -1 <;> simp [h]
    · simp [laB, anyOne]
  case round =>
    obtain ⟨k, hk, rfl, rfl, rfl⟩ := hrel
    by_cases hlt : k < L.length
    · obtain ⟨b2, o2, c2', hv2, hb2, hc2⟩ := Hv.out.some (by omega)
      obtain ⟨m, hm, hml⟩ := hc2 k hlt
      simp only [Value.slice.injEq] at hv2
      obtain ⟨rfl, hlx, rfl⟩ := hv2
      clear hlx hc2
      have hz := HL.out _ (List.getElem_mem hlt)
      have H1 := anyHas_succ L x k hlt
      have H2 := anyOne_succ L x k hlt
      have HT : Hid (thB (L.take (k + 1)) x = (thB (L.take k) x || (decide (x ∈ L[k]) && decide (x ≠ -1)))) := by
        unfold Hid thB; rw [H1]; by_cases h : x = -1 <;> simp [h]
      have HA : Hid (laB (L.take (k + 1)) x = (laB (L.take k) x || (decide (x ∈ L[k]) && decide (x ≠ -1) && decide (L[k].length = 1)))) := by
        unfold Hid laB; rw [H2]; by_cases h : x = -1 <;> simp [h]
      clear H1 H2
      obtain ⟨a, c', hmv⟩ := hml.len
      simp only [List.length_map] at hmv
      have Hml : Hid (Sl w m (L[k].map (Value.int .i64))) := hml
      clear hml
      generalize L[k] = ch at *
      subst hmv
      generalize thB (L.take k) x = s0 at *
      generalize laB (L.take k) x = l0 at *
      have hd : ((ch.length : Int) == 1) = decide (ch.length = 1) := by
        by_cases h : ch.length = 1
        · simp [h]
        · simp [h]; omega
      have hx : (x != -1) = decide (x ≠ -1) := by by_cases h : x = -1 <;> simp [h]
      generalize decide (ch.length = 1) = q1 at *
      generalize decide (x ≠ -1) = q2 at *
      go_wp2_with fail
      refine (within_any _ ch x _ Hml.out hz).mono ?_
      generalize decide (x ∈ ch) = q0 at *
      rintro e w' ⟨rfl, rfl⟩
      cases s0 <;> cases l0 <;> cases q0 <;> cases q1 <;> cases q2
      all_goals
        go_wp2
        go_round
        case rel => exact ⟨k + 1, by omega, by go_num, by rw [HT.out]; rfl, by rw [HA.out]; rfl⟩
        case measure => simp [intOf]; omega
    · have ht : L.take k = L := List.take_of_length_le (by omega)
      rw [ht]
      cases hth : thB L x
      · have HF := hid (nerr3 zs hth)
        clear hth
        go_wp2
        go_ret2
        exact ⟨_, by rw [HF.out.1]; rfl, Bl.refl _, by rw [HF.out.2]; exact ⟨[], .inl ⟨_, _, rfl, rfl⟩, rfl, fun i h => by simp at h⟩⟩
      cases hla : laB L x
      case true =>
        have HF := hid (nerr4 zs hth hla)
        clear hth hla
        go_wp2
        go_ret2
        exact ⟨_, by rw [HF.out.1]; rfl, Bl.refl _, by rw [HF.out.2]; exact ⟨[], .inl ⟨_, _, rfl, rfl⟩, rfl, fun i h => by simp at h⟩⟩
      case false =>
        have Hne := hid (nerr0 zs hth hla)
        clear hth hla ht
        go_wp2
        go_loopw [12, 13] (fun nv i wr => ∃ (k : Nat) (ms : List Value), k ≤ L.length ∧ i = .int .i64 k ∧ Bl w wr ∧ Gath w.heap.size wr nv k ms ((L.take k).map (rm x)) ∧ ∀ c ∈ L.take k, hasB (rm x c) zs = true) (fun _ i _ => L.length - (intOf i).toNat)
        case atStart =>
          exact ⟨0, [], Nat.zero_le _, rfl, (Bl.refl _).alloc _, ⟨World.ownsRow_lit w #[] 0 (Nat.le_refl _) (by unfold maxLen; omega) rfl, by simp, fun i h => by simp at h⟩, by simp⟩
        case round =>
          obtain ⟨wo, rfl⟩ : ∃ wo, wo = wr := ⟨_, rfl⟩
          obtain ⟨k1, ms, hk1, rfl, hbl, hG, hall⟩ := hrel
          have HG := hid (hG)
          have Hall := hid (hall)
          clear hG hall
          by_cases hlt1 : k1 < L.length
          · obtain ⟨b2, o2, c2', hv2, hb2, hc2⟩ := Hv.out.some (by omega)
            obtain ⟨m, hm, hml⟩ := hc2 k1 hlt1
            simp only [Value.slice.injEq] at hv2
            obtain ⟨rfl, hlx, rfl⟩ := hv2
            clear hlx hc2
            have hzc := HL.out _ (List.getElem_mem hlt1)
            have Ht : Hid (L.take (k1 + 1) = L.take k1 ++ [L[k1]]) := List.take_succ_eq_append_getElem hlt1
            have Hmem : Hid (L[k1] ∈ L) := List.getElem_mem hlt1
            obtain ⟨a, c', hmv⟩ := hml.len
            simp only [List.length_map] at hmv
            have Hml : Hid (Sl w m (L[k1].map (Value.int .i64))) := hml
            clear hml
            generalize L[k1] = ch at *
            subst hmv
            have hcm := (hbl.cell hb2).trans hm
            have Hm := hid (hm)
            clear hm
            go_wp2
            go_loopw [14, 15, 16] (fun ok cv j wy => ∃ n : Nat, n ≤ ch.length ∧ j = .int .i64 n ∧ ok = .bool (hasB (rm x (ch.take n)) zs) ∧ Bl wo wy ∧ wy.ownsRow wo.heap.size 3 1 cv (rm x (ch.take n)).length ((rm x (ch.take n)).map (Value.int .i64))) (fun _ _ j _ => ch.length - (intOf j).toNat)
            case atStart => exact ⟨0, Nat.zero_le _, rfl, rfl, (Bl.refl _).alloc _, World.ownsRow_lit wo #[] 0 (Nat.le_refl _) (by unfold maxLen; omega) rfl⟩
            case round =>
              clear hcm
              obtain ⟨n, hn1, rfl, rfl, hbi, hown⟩ := hrel
              have hbl2 := hbl.trans hbi
              have hcm := (hbl2.cell hb2).trans Hm.out
              by_cases hlt2 : n < ch.length
              · rcases Hml.out with ⟨a9, c9, hv0, hz0⟩ | ⟨b1, o1, c1, hv1, hb1, hc1⟩
                · simp at hz0; simp [hz0] at hlt2
                have hcj := (hbl2.cell hb1).trans (hc1 n (by simpa using hlt2))
                simp only [List.getElem_map] at hcj
                simp only [Value.slice.injEq] at hv1
                obtain ⟨rfl, hlx, rfl⟩ := hv1
                clear hlx hc1
                have Hown := hid (hown)
                clear hown
                cases hkp : keepIt x ch[n]
                · have hrm : Hid (rm x (ch.take (n + 1)) = rm x (ch.take n)) := rm_succ_no x ch n hlt2 hkp
                  have hno := keep_no hkp
                  obtain ⟨hx1, hx2⟩ := hno
                  have hx3 : (ch[n] == x) = true := by simpa using hx2
                  have hx4 : (x != -1) = true := by simpa using hx1
                  clear hkp hx2
                  obtain ⟨ok0, Hok⟩ : ∃ q, Hid (hasB (rm x (ch.take n)) zs = q) := ⟨_, rfl⟩
                  rw [Hok.out]
                  go_wp2
                  go_roundw
                  case rel => exact ⟨n + 1, by omega, by go_num, by rw [hrm.out, Hok.out], hbi, by rw [hrm.out]; exact Hown.out⟩
                  case measure => simp [intOf]; omega
                · have hrm : Hid (rm x (ch.take (n + 1)) = rm x (ch.take n) ++ [ch[n]]) := rm_succ_yes x ch n hlt2 hkp
                  have hya := keep_yes2 hkp
                  have hlen := rm_len x ch n
                  clear hkp
                  obtain ⟨ok0, Hok⟩ : ∃ q, Hid (hasB (rm x (ch.take n)) zs = q) := ⟨_, rfl⟩
                  rw [Hok.out]
                  generalize rm x (ch.take n) = rr at *
                  have hby : Hid ((rr.length + 1) * 8 ≤ 140737488355328) := by unfold Hid; omega
                  have hml : Hid (rr.length + 1 ≤ maxLen) := by unfold Hid maxLen; omega
                  have hlt0 := hbi.lt
                  rcases hya with hx1 | ⟨hx1, hx2⟩
                  all_goals
                    go_wp2_with (first | (at_builtin; refine wpList_append_lies _ rfl _ _ 24 rfl wo.heap.size 3 i3 (.int .i64 0) 1 8 Tryz.underlying24 ji jz0 jz1 jz2 rfl (by decide) _ rr.length _ rfl (Hown.out.alloc _) ⟨wr.heap.size, 0, none⟩ 1 1 [.int .i64 ch[n]] rfl rfl (cell_one_new _ _ _) (by simp [Value.oneCell']) (by decide) hml.out hby.out (by simp; omega) (wr.heap.size + 1) (by simp) ?_))
                    intro g' cap w1 hown' hgrow hat hlt'
                    have hb1 : Hid (Bl wo w1) := (hbi.alloc _).trans_only (Only.of_grown hgrow) (fun b hb => (Hown.out.lt b hb.symm).1)
                    have Hown' := hid (hown')
                    clear hown' hgrow hat Hown
                    go_wp2_with fail
                    refine (within_any u zs ch[n] _ (Hu.out.bl (hbl.trans hb1.out)) hz).mono ?_
                    rintro e w2 ⟨rfl, rfl⟩
                    obtain ⟨q0, Hq⟩ : ∃ q, Hid (decide (ch[n] ∈ zs) = q) := ⟨_, hid rfl⟩
                    rw [Hq.out]
                    cases ok0 <;> cases q0
                    all_goals
                      go_wp2
                      go_roundw
                      case rel => exact ⟨n + 1, by omega, by go_num, by rw [hrm.out, hasB_snoc, Hok.out, Hq.out]; rfl, hb1.out, by rw [hrm.out, List.length_append, List.map_append]; exact Hown'.out⟩
                      case measure => simp [intOf]; omega
              · have hte : ch.take n = ch := List.take_of_length_le (by omega)
                rw [hte] at hown
                rw [hte]
                have Hown := hid (hown)
                clear hown hte
                cases hok : hasB (rm x ch) zs
                · have HF := hid (nerr5 Hne.out Hmem.out hok)
                  clear hok
                  go_wp2
                  go_ret2
                  exact ⟨_, by rw [HF.out.1]; rfl, hbl2, by rw [HF.out.2]; exact ⟨[], .inl ⟨_, _, rfl, rfl⟩, rfl, fun i h => by simp at h⟩⟩
                · have Hok := hid (hok)
                  clear hok
                  obtain ⟨a5, c5, h5⟩ := (ownsRow_sl Hown.out).len
                  simp only [List.length_map] at h5
                  subst h5
                  have HG2 := hid ((HG.out.bl hbi).bl ((Bl.refl _).alloc (.cells #[.slice a5 (rm x ch).length c5] 24)))
                  have hby : Hid ((k1 + 1) * 24 ≤ 140737488355328) := by unfold Hid; omega
                  have hml : Hid (k1 + 1 ≤ maxLen) := by unfold Hid maxLen; omega
                  have hlt0 := hbl2.lt
                  have hone := hid (owns_oneCell Hown.out)
                  have HR2 := hid (ownsRow_base (Hown.out.alloc (.cells #[.slice a5 (rm x ch).length c5] 24)) (fun b hb => Nat.le_trans hbl.lt (Hown.out.lt b hb).1))
                  go_wp2_with (first | (at_builtin; refine wpList_append_lies _ rfl _ _ 39 rfl w.heap.size 24 i24 (.slice none 0 0) 1 24 Tryz.underlying39 hi hz0 hz1 hz2 rfl (by decide) _ k1 _ rfl HG2.out.own ⟨wr.heap.size, 0, none⟩ 1 1 [.slice a5 (rm x ch).length c5] rfl rfl (cell_one_new _ _ _) (by simpa using hone.out) (by decide) hml.out hby.out (by simp; omega) (wr.heap.size + 1) (by simp) ?_))
                  intro g' cap w1 hown' hgrow hat hlt'
                  have HG3 := hid (HG2.out.snoc HR2.out hgrow hown')
                  have hb1 := hid ((hbl2.alloc (.cells #[.slice a5 (rm x ch).length c5] 24)).trans_only (Only.of_grown hgrow) (fun b hb => (HG2.out.own.lt b hb.symm).1))
                  clear hown' hgrow hat HG2 HR2 Hown
                  go_wp2
                  go_roundw
                  case rel =>
                    refine ⟨k1 + 1, _, by omega, by go_num, hb1.out, by rw [Ht.out, List.map_append]; exact HG3.out, ?_⟩
                    rw [Ht.out]
                    intro y hy
                    rcases List.mem_append.1 hy with hy | hy
                    · exact Hall.out y hy
                    · simp at hy; subst hy; exact Hok.out
                  case measure => simp [intOf]; omega
          · have hte : L.take k1 = L := List.take_of_length_le (by omega)
            have HF := hid (nerrOk Hne.out (by have := Hall.out; rw [hte] at this; exact this))
            have HS := hid HG.out.sll
            rw [hte] at HS
            clear hte
            go_wp2
            go_ret2
            exact ⟨_, by rw [HF.out.1]; rfl, hbl, by rw [HF.out.2]; exact HS.out⟩
end Go.Proofs.YtkgjpfamjedncaaGreat

namespace Go.Proofs.YtkgjpfamjedncaaGreat
open Go.RowKit

theorem Tryz.size3 : (Tryz.prog.info? 3).map (·.size) = some 1 := by kernel_rfl
theorem Tryz.nil24 (w : World) (a : Option Addr) (n c n' c' : Nat) : (binOp .eql 24 (.slice a n c) (.slice none n' c')).run Tryz.prog w = .ok (.bool a.isNone) w := Lib.run_eql_slice_nil w _ _ a n c n' c' Tryz.underlying24

/-- Numbers that were lent: r is lent for v; eight places behind it hold -77. -/
def LentI (base : Nat) (w : World) (r v : Value) (zs : List Int) : Prop :=
  ((∃ c, v = .slice none 0 c) ∧ r = .slice none 0 0 ∧ zs = []) ∨
  ∃ a c g, v = .slice (some a) zs.length c ∧ r = .slice (some ⟨g, 0, none⟩) zs.length (zs.length + 8) ∧ w.ownsRow base 3 1 (.slice (some ⟨g, 0, none⟩) (zs.length + 8) (zs.length + 8)) (zs.length + 8) (tailed (zs.map (Value.int .i64)) (.int .i64 (-77)) (.int .i64 0) 8 8)

theorem LentI.only {S : Nat → Prop} {base : Nat} {w w' : World} {r v : Value} {zs : List Int} (h : LentI base w r v zs) (ho : Only S w w') (hs : ∀ b, r.ownBlock = some b → ¬ S b) : LentI base w' r v zs := by
  rcases h with h | ⟨a, c, g, rfl, rfl, h⟩
  · exact .inl h
  · exact .inr ⟨a, c, g, rfl, rfl, ho.owns h fun b hb => hs b hb⟩
theorem LentI.bl {base : Nat} {w w' : World} {r v : Value} {zs : List Int} (h : LentI base w r v zs) (ho : Bl w w') : LentI base w' r v zs := h.only (Only.of_bl (S := fun _ => False) ho) fun _ _ e => e
theorem LentI.lt {base : Nat} {w : World} {r v : Value} {zs : List Int} (h : LentI base w r v zs) (b : Nat) (hb : r.ownBlock = some b) : base ≤ b ∧ b < w.heap.size := by
  rcases h with ⟨_, rfl, _⟩ | ⟨a, c, g, rfl, rfl, h⟩
  · simp [Value.ownBlock] at hb
  · exact h.lt b hb
theorem LentI.sl {base : Nat} {w : World} {r v : Value} {zs : List Int} (h : LentI base w r v zs) : Sl w r (zs.map (Value.int .i64)) := by
  rcases h with ⟨_, rfl, rfl⟩ | ⟨a, c, g, rfl, rfl, h⟩
  · exact .inl ⟨_, _, rfl, rfl⟩
  · have := ownsRow_sl (ownsRow_cut h zs.length (by omega))
    rwa [tailed, List.take_append_of_le_length (by simp), List.take_of_length_le (by simp)] at this

set_option maxRecDepth 100000 in
set_option maxHeartbeats 1000000 in
theorem lentInts_any (v : Value) (zs : List Int) (w : World) (hv : Sl w v (zs.map (Value.int .i64))) (hs : zs.length ≤ 4000000) :
    Calls Tryz.prog 22 #[v] w fun e w' => ∃ r, e = .returned r ∧ Bl w w' ∧ LentI w.heap.size w' r v zs := by
  have hnil := Tryz.nil24
  have hsh : (∃ c, v = .slice none 0 c ∧ zs = []) ∨ ∃ ad c, v = .slice (some ad) zs.length c ∧ ∀ j u, (zs.map (Value.int .i64))[j]? = some u → w.cell? (ad.add j) = some u := by
    rcases hv with ⟨a, c, rfl, hz⟩ | ⟨b, o, c, rfl, hb, hc⟩
    · simp at hz
      subst hz
      cases a with
      | none => exact .inl ⟨c, rfl, rfl⟩
      | some ad => exact .inr ⟨ad, c, rfl, fun j u hj => by simp at hj⟩
    · refine .inr ⟨⟨b, o, none⟩, c, by simp, fun j u hj => ?_⟩
      obtain ⟨hjl, rfl⟩ := List.getElem?_eq_some_iff.1 hj
      rw [add_eq]
      exact hc j hjl
  clear hv
  rcases hsh with ⟨c, rfl, rfl⟩ | ⟨ad, c, rfl, hc⟩
  · go_enter Tryz.func22, Tryz.ntmps22
    go_wp2
    go_ret
    exact ⟨_, rfl, Bl.refl _, .inl ⟨⟨_, rfl⟩, rfl, rfl⟩⟩
  · obtain ⟨i3, ji, jz0, jz1, jz2⟩ := info_parts Tryz.info3
    have hby : Hid (i3.bytes * (zs.length + 8) ≤ 281474976710656) := by rw [jz2]; unfold Hid; omega
    have hml : Hid (zs.length + 8 ≤ maxLen) := by unfold Hid maxLen; omega
    have Hc := hid hc
    clear hc
    go_enter Tryz.func22, Tryz.ntmps22
    go_wp2_with (first | (at_make; refine wpList_make_full _ rfl _ _ 24 rfl w.heap.size 3 i3 _ 1 Tryz.underlying24 ji jz0 jz1 _ _ _ _ (zs.length + 8) rfl rfl (by omega) (by omega) hby.out hml.out (by simp) ?_))
    intro w1 hown hgrow
    have hbl := (Only.of_grown hgrow).to_bl (by simp)
    have hheap : Hid (w1.heap[w.heap.size]? = some (.cells (List.replicate (zs.length + 8) (Value.int .i64 0)).toArray 3 (0, 0))) := by
      have := ownsRow_full hown
      rwa [toList_madeCells_one] at this
    have hsrc : Hid (∀ j u, (zs.map (Value.int .i64))[j]? = some u → w1.cell? (ad.add j) = some u) := by
      intro j u hj
      have h1 := Hc.out j u hj
      rw [Below.cell hbl (World.block_lt_of_cell? w _ h1)]
      exact h1
    have hmin : Hid ((zs.map (Value.int .i64)).length = Nat.min zs.length (zs.length + 8)) := by unfold Hid; simp
    have hone : Hid (∀ u ∈ zs.map (Value.int .i64), u.oneCell' = true) := by
      intro u hu; obtain ⟨z, _, rfl⟩ := List.mem_map.1 hu; rfl
    have hfit : Hid (0 + (zs.map (Value.int .i64)).length ≤ (List.replicate (zs.length + 8) (Value.int .i64 0)).length) := by unfold Hid; simp
    clear hown hgrow
    go_wp2_with (refine wpList_copy_splice rfl (.tmp 11) (.tmp 12) 24 24 rfl 3 Tryz.underlying24 Tryz.size3 _ _ _ _ _ _ rfl rfl w.heap.size 0 _ 3 hheap.out _ hmin.out (fun _ => ⟨rfl, _, rfl, hsrc.out⟩) hfit.out hone.out w.heap.size w hbl (Nat.le_refl _) ?_)
    intro w2 hheap2 hbl2
    have hrow : w2.ownsRow w.heap.size 3 1 (.slice (some ⟨w.heap.size, 0, none⟩) (zs.length + 8) (zs.length + 8)) (zs.length + 8) (tailed (zs.map (Value.int .i64)) (.int .i64 (-77)) (.int .i64 0) 0 8) := by
      refine ownsRow_heap ?_ (Nat.le_refl _) (by simp [tailed]) hml.out
      rw [hheap2.out]
      simp [splice, tailed]
    have Hrow := hid hrow
    have Hbl2 := hid hbl2
    clear hrow hheap2 hbl2 hbl hheap hsrc hmin hone hfit hby
    go_wp2
    go_loopw [4] (fun i wr => ∃ k j : Nat, Hid (k = zs.length + j) ∧ j ≤ 8 ∧ i = .int .i64 k ∧ Bl w wr ∧ wr.ownsRow w.heap.size 3 1 (.slice (some ⟨w.heap.size, 0, none⟩) (zs.length + 8) (zs.length + 8)) (zs.length + 8) (tailed (zs.map (Value.int .i64)) (.int .i64 (-77)) (.int .i64 0) j 8)) (fun i _ => zs.length + 8 - (intOf i).toNat)
    case atStart => exact ⟨zs.length, 0, hid (by omega), by omega, rfl, Hbl2.out, Hrow.out⟩
    case round =>
      clear Hrow Hbl2
      obtain ⟨k, j, Hk, hj, rfl, hbl, hown⟩ := hrel
      have Hown := hid hown
      clear hown
      have hk1 : zs.length ≤ k := by have := Hk.out; omega
      by_cases hlt : j < 8
      · have hk2 : k < zs.length + 8 := by have := Hk.out; omega
        have hst := Hown.out.stored k (.int .i64 (-77))
        obtain ⟨old, hcell⟩ := own_cell Hown.out k hk2
        have hfro := Hown.out.frozenAt k
        have H1 := hid hst.1
        rw [show (tailed (zs.map (Value.int .i64)) (.int .i64 (-77)) (.int .i64 0) j 8).set k (.int .i64 (-77)) = tailed (zs.map (Value.int .i64)) (.int .i64 (-77)) (.int .i64 0) (j + 1) 8 from by rw [Hk.out, ← tailed_set _ _ _ _ _ hlt]; simp] at H1
        have H2 := hid (hbl.trans_only (Only.of_grown hst.2) (fun n hn => by cases hn; exact Nat.le_refl _))
        clear hst Hown
        go_wp2
        go_roundw
        case rel => exact ⟨k + 1, j + 1, hid (by have := Hk.out; omega), by omega, by go_num, H2.out, H1.out⟩
        case measure => simp [intOf]; omega
      · have hj8 : j = 8 := by omega
        subst hj8
        have hk2 : ¬ k < zs.length + 8 := by have := Hk.out; omega
        go_wp2
        go_ret
        exact ⟨_, rfl, hbl, .inr ⟨_, _, _, rfl, rfl, Hown.out⟩⟩
end Go.Proofs.YtkgjpfamjedncaaGreat

namespace Go.Proofs.YtkgjpfamjedncaaGreat
open Go.RowKit

set_option maxRecDepth 100000 in
set_option maxHeartbeats 1000000 in
theorem backInts_any (base : Nat) (r v : Value) (zs : List Int) (w : World) (hr : LentI base w r v zs) (hv : Sl w v (zs.map (Value.int .i64))) (hs : zs.length ≤ 4000000) :
    Calls Tryz.prog 25 #[r, v] w fun e w' => e = .returned (.bool true) ∧ Only (fun k => r.ownBlock = some k) w w' := by
  have hnil := Tryz.nil24
  have Hsl := hid hr.sl
  rcases hr with ⟨⟨c9, rfl⟩, rfl, rfl⟩ | ⟨a, c, g, rfl, rfl, hown⟩
  · go_enter Tryz.func25, Tryz.ntmps25
    go_wp2
    go_ret
    exact ⟨rfl, Only.refl _ _⟩
  · have Hv := hid hv
    have Hown := hid hown
    clear hv hown
    go_enter Tryz.func25, Tryz.ntmps25
    go_wp2_with fail
    refine (sameInts_any _ _ zs _ Hsl.out Hv.out hs).mono ?_
    rintro e w1 ⟨rfl, hbl⟩
    have Hown1 := hid ((Only.of_bl (S := fun _ => False) hbl).owns Hown.out fun _ _ e => e)
    have Hbl := hid hbl
    clear Hown hbl
    generalize hT : tailed (zs.map (Value.int .i64)) (.int .i64 (-77)) (.int .i64 0) 8 8 = T at *
    have HT := hid hT
    have hTl : Hid (T.length = zs.length + 8) := by unfold Hid; rw [← hT, tailed_len _ _ _ _ _ (by omega)]; simp
    have hTg : Hid (∀ k, zs.length ≤ k → k < zs.length + 8 → T[k]? = some (.int .i64 (-77))) := by
      intro k h1 h2; rw [← hT]; exact tailed_get _ _ _ k (by simpa using h1) (by simpa using h2)
    clear hT HT
    go_wp2
    go_loopw [5, 7] (fun ok i wr => ∃ k : Nat, k ≤ zs.length + 8 ∧ i = .int .i64 k ∧ ok = .bool true ∧ Only (fun b => some g = some b) w wr ∧ wr.ownsRow base 3 1 (.slice (some ⟨g, 0, none⟩) (zs.length + 8) (zs.length + 8)) (zs.length + 8) (over T (.int .i64 (-78)) k)) (fun _ i _ => zs.length + 8 - (intOf i).toNat)
    case atStart => exact ⟨0, by omega, rfl, rfl, Only.of_bl Hbl.out, by simpa [over] using Hown1.out⟩
    case round =>
      clear Hbl Hown1
      obtain ⟨k, hk, rfl, rfl, ho, hown⟩ := hrel
      have Hown := hid hown
      have Ho := hid ho
      clear hown ho
      by_cases hlt : k < zs.length + 8
      · have hst := Hown.out.stored k (.int .i64 (-78))
        rw [over_set _ _ _ (by rw [hTl.out]; exact hlt)] at hst
        have H1 := hid hst.1
        have H2 := hid (Ho.out.setCell ⟨g, k, none⟩ (.inl rfl) (.int .i64 (-78)))
        have hfro := Hown.out.frozenAt k
        have hcell := Hown.out.cellAt k (by omega)
        rw [over_get] at hcell
        clear hst
        by_cases hlz : k < zs.length
        · rw [List.getElem?_eq_getElem (by rw [hTl.out]; exact hlt)] at hcell
          generalize T[k]'(by rw [hTl.out]; exact hlt) = old at hcell
          clear Hown
          go_wp2
          go_roundw
          case rel => exact ⟨k + 1, by omega, by go_num, rfl, H2.out, H1.out⟩
          case measure => simp [intOf]; omega
        · rw [hTg.out k (by omega) hlt] at hcell
          clear Hown
          go_wp2
          go_roundw
          case rel => exact ⟨k + 1, by omega, by go_num, rfl, H2.out, H1.out⟩
          case measure => simp [intOf]; omega
      · go_wp2
        go_ret
        exact ⟨rfl, Ho.out⟩
end Go.Proofs.YtkgjpfamjedncaaGreat

namespace Go.Proofs.YtkgjpfamjedncaaGreat
open Go.RowKit

/-- What lies at place i of a layout that is lent. -/
def Good (base : Nat) (w : World) (ls : List Value) (L : List (List Int)) (i : Nat) (m : Value) : Prop :=
  (∀ (h : i < L.length) (h' : i < ls.length), LentI base w m ls[i] L[i]) ∧ (L.length ≤ i → ∃ g, m = .slice (some ⟨g, 0, none⟩) 1 1 ∧ w.ownsRow base 3 1 m 1 [.int .i64 (-77)])

theorem Good.row {base : Nat} {w : World} {ls : List Value} {L : List (List Int)} {i : Nat} {m : Value} (h : Good base w ls L i m) (hl : ls.length = L.length) (b : Nat) (hb : m.ownBlock = some b) :
    ∃ n xs, w.ownsRow base 3 1 (.slice (some ⟨b, 0, none⟩) n n) n xs := by
  by_cases hi : i < L.length
  · rcases h.1 hi (by omega) with ⟨_, e, _⟩ | ⟨a, c, g, _, e, ho⟩
    · rw [e] at hb; simp [Value.ownBlock] at hb
    · rw [e] at hb; simp [Value.ownBlock] at hb
      subst hb; exact ⟨_, _, ho⟩
  · obtain ⟨g, e, ho⟩ := h.2 (by omega)
    subst e
    simp [Value.ownBlock] at hb
    subst hb; exact ⟨_, _, ho⟩
theorem Good.only {S : Nat → Prop} {base : Nat} {w w' : World} {ls : List Value} {L : List (List Int)} {i : Nat} {m : Value} (h : Good base w ls L i m) (ho : Only S w w') (hs : ∀ b, m.ownBlock = some b → ¬ S b) : Good base w' ls L i m := by
  refine ⟨fun h1 h2 => (h.1 h1 h2).only ho hs, fun h1 => ?_⟩
  obtain ⟨g, e, hw⟩ := h.2 h1
  exact ⟨g, e, ho.owns hw hs⟩
theorem Good.ne {base base' : Nat} {w : World} {ls : List Value} {L : List (List Int)} {i : Nat} {m : Value} (h : Good base w ls L i m) (hl : ls.length = L.length) {G n : Nat} {ms : List Value} (ho : w.ownsRow base' 24 1 (.slice (some ⟨G, 0, none⟩) n n) n ms) (b : Nat) (hb : m.ownBlock = some b) : ¬ b = G := by
  rintro rfl
  obtain ⟨n', xs, hr⟩ := h.row hl b hb
  exact ownsRow_type hr ho (by decide) b rfl rfl
theorem Good.lt {base : Nat} {w : World} {ls : List Value} {L : List (List Int)} {i : Nat} {m : Value} (h : Good base w ls L i m) (hl : ls.length = L.length) (b : Nat) (hb : m.ownBlock = some b) : base ≤ b ∧ b < w.heap.size := by
  obtain ⟨n', xs, hr⟩ := h.row hl b hb
  exact hr.lt b rfl

structure LentK (base : Nat) (w : World) (G : Nat) (ls : List Value) (L : List (List Int)) (k : Nat) (ms : List Value) : Prop where
  own : w.ownsRow base 24 1 (.slice (some ⟨G, 0, none⟩) (L.length + 8) (L.length + 8)) (L.length + 8) ms
  ll : ls.length = L.length
  row : ∀ i (h : i < ms.length), i < k → Good base w ls L i ms[i]
  apart : ∀ i j (hi : i < ms.length) (hj : j < ms.length) b, i < k → j < k → i ≠ j → ms[i].ownBlock = some b → ms[j].ownBlock ≠ some b

theorem LentK.step {base : Nat} {w w1 : World} {G : Nat} {ls : List Value} {L : List (List Int)} {k : Nat} {ms ms1 : List Value} (h : LentK base w G ls L k ms) (ho : Only (fun b => b = G) w w1) (hk : k < L.length + 8)
    (hown : w1.ownsRow base 24 1 (.slice (some ⟨G, 0, none⟩) (L.length + 8) (L.length + 8)) (L.length + 8) ms1) {m : Value} (hms : ms1.set k m = ms.set k m) (hg : Good base w1 ls L k m) (hnew : ∀ b, m.ownBlock = some b → w.heap.size ≤ b) :
    LentK base (w1.setCell ⟨G, k, none⟩ m) G ls L (k + 1) (ms.set k m) := by
  obtain ⟨hst, hgr⟩ := hown.stored k m
  have hgr' := Only.of_grown hgr
  rw [hms] at hst
  have hml := ownsRow_len h.own
  refine ⟨hst, h.ll, fun i hi hik => ?_, fun i j hi hj b hik hjk hij hb => ?_⟩
  · by_cases e : i = k
    · subst e
      rw [List.getElem_set_self]
      exact hg.only hgr' fun b hb e => hg.ne h.ll hown b hb (by simpa using e)
    · have hi2 : i < ms.length := by simpa using hi
      rw [List.getElem_set_ne (by omega)]
      have h1 := h.row i hi2 (by omega)
      have h2 := h1.only ho fun b hb => h1.ne h.ll h.own b hb
      exact h2.only hgr' fun b hb e => h2.ne h.ll hown b hb (by simpa using e)
  · have hi2 : i < ms.length := by simpa using hi
    have hj2 : j < ms.length := by simpa using hj
    by_cases e : i = k
    · subst e
      rw [List.getElem_set_self] at hb
      rw [List.getElem_set_ne (by omega)]
      intro hb'
      have := ((h.row j hj2 (by omega)).lt h.ll b hb').2
      have := hnew b hb
      omega
    · rw [List.getElem_set_ne (by omega)] at hb
      by_cases e' : j = k
      · subst e'
        rw [List.getElem_set_self]
        intro hb'
        have := ((h.row i hi2 (by omega)).lt h.ll b hb).2
        have := hnew b hb'
        omega
      · rw [List.getElem_set_ne (by omega)]
        exact h.apart i j hi2 hj2 b (by omega) (by omega) hij hb

theorem LentK.bl {base : Nat} {w w1 : World} {G : Nat} {ls : List Value} {L : List (List Int)} {k : Nat} {ms : List Value} (h : LentK base w G ls L k ms) (hb : Bl w w1) : LentK base w1 G ls L k ms :=
  have ho : Only (fun _ => False) w w1 := Only.of_bl hb
  ⟨ho.owns h.own fun _ _ e => e, h.ll, fun i hi hk => (h.row i hi hk).only ho fun _ _ e => e, h.apart⟩

theorem LentI.base {base base' : Nat} {w : World} {r v : Value} {zs : List Int} (h : LentI base w r v zs) (hb : base' ≤ base) : LentI base' w r v zs := by
  rcases h with h | ⟨a, c, g, rfl, rfl, h⟩
  · exact .inl h
  · exact .inr ⟨a, c, g, rfl, rfl, ownsRow_base h fun b hb' => Nat.le_trans hb (h.lt b hb').1⟩

set_option maxRecDepth 100000 in
set_option maxHeartbeats 1000000 in
theorem lentLayout_any (v : Value) (ls : List Value) (L : List (List Int)) (w : World) (hv : Sl w v ls) (hl : ls.length = L.length) (hr : ∀ i (h : i < ls.length) (h' : i < L.length), Sl w ls[i] (L[i].map (Value.int .i64))) (hn : L.length ≤ 4000000) (hs : ∀ c ∈ L, c.length ≤ 4000000) :
    Calls Tryz.prog 21 #[v] w fun e w' => ∃ G ms, e = .returned (.slice (some ⟨G, 0, none⟩) L.length (L.length + 8)) ∧ Bl w w' ∧ LentK w.heap.size w' G ls L (L.length + 8) ms := by
  obtain ⟨i24, hi, hz0, hz1, hz2⟩ := info_parts Tryz.info24
  have hby : Hid (i24.bytes * (L.length + 8) ≤ 281474976710656) := by rw [hz2]; unfold Hid; omega
  have hml : Hid (L.length + 8 ≤ maxLen) := by unfold Hid maxLen; omega
  obtain ⟨a0, c0, hv0⟩ := hv.len
  rw [hl] at hv0
  subst hv0
  have Hv := hid hv
  have Hr := hid hr
  have Hs := hid hs
  have Hl := hid hl
  clear hv hr hs hl
  go_enter Tryz.func21, Tryz.ntmps21
  go_wp2_with (first | (at_make; refine wpList_make_full _ rfl _ _ 39 rfl w.heap.size 24 i24 _ 1 Tryz.underlying39 hi hz0 hz1 _ _ _ _ (L.length + 8) rfl rfl (by omega) (by omega) hby.out hml.out (by simp) ?_))
  intro w1 hown hgrow
  have hbl := hid ((Only.of_grown hgrow).to_bl (by simp))
  have hK0 : Hid (LentK w.heap.size w1 w.heap.size ls L 0 _) := ⟨hown, Hl.out, fun i _ h => by omega, fun i j _ _ b h => by omega⟩
  clear hown hgrow
  go_wp2
  go_loopw [4] (fun i wr => ∃ (k : Nat) (ms : List Value), k ≤ L.length + 8 ∧ i = .int .i64 k ∧ Bl w wr ∧ LentK w.heap.size wr w.heap.size ls L k ms) (fun i _ => L.length + 8 - (intOf i).toNat)
  case atStart => exact ⟨0, _, by omega, rfl, hbl.out, hK0.out⟩
  case round =>
    clear hbl hK0
    obtain ⟨k, ms, hk, rfl, hbl, hK⟩ := hrel
    have HK := hid hK
    clear hK
    by_cases hlt : k < L.length + 8
    · obtain ⟨old, hcell0⟩ := own_cell HK.out.own k hlt
      have hfro0 := HK.out.own.frozenAt k
      have hB : w.heap.size < wr.heap.size := (HK.out.own.lt w.heap.size rfl).2
      have ba : Bl wr (wr.alloc (.cells #[.int .i64 (-77)] 3)) := (Bl.refl _).alloc _
      have hcell := (ba.cell hB).trans hcell0
      have hfro := (ba.frozen hB).trans hfro0
      have hK1 : LentK w.heap.size (wr.alloc (.cells #[.int .i64 (-77)] 3)) w.heap.size ls L k ms := HK.out.bl ba
      obtain ⟨hst, hgr⟩ := hK1.own.stored k (.slice (some ⟨wr.heap.size, 0, none⟩) 1 1)
      have hO1 : Hid (Only (fun b => b = w.heap.size) wr ((wr.alloc (.cells #[.int .i64 (-77)] 3)).setCell ⟨w.heap.size, k, none⟩ (.slice (some ⟨wr.heap.size, 0, none⟩) 1 1))) := Only.setCell (S := fun b => b = w.heap.size) (Only.of_bl ba) ⟨w.heap.size, k, none⟩ (.inl rfl) _
      have hbl1 : Hid (Bl w ((wr.alloc (.cells #[.int .i64 (-77)] 3)).setCell ⟨w.heap.size, k, none⟩ (.slice (some ⟨wr.heap.size, 0, none⟩) 1 1))) := hbl.trans_only hO1.out (fun n hn => by rw [hn]; exact Nat.le_refl _)
      rw [World.setCell_alloc_past (hn := hB)] at hO1 hbl1 hst
      by_cases hlL : k < L.length
      · have hcell2 := own_cell hst k hlt
        have hfro2 := hst.frozenAt k
        have Hst := hid hst
        have hlk : k < ls.length := by rw [Hl.out]; exact hlL
        have hsl := hid ((Hr.out k hlk hlL).bl hbl1.out)
        have hzl := Hs.out _ (List.getElem_mem hlL)
        rcases Hv.out with ⟨a9, c9, hv1, hv2⟩ | ⟨b1, o1, c1, hv1, hb1, hc1⟩
        · rw [hv2] at hlk; simp at hlk
        simp only [Value.slice.injEq] at hv1
        obtain ⟨rfl, hlx, rfl⟩ := hv1
        have hcv := (hbl1.out.cell hb1).trans (hc1 k hlk)
        obtain ⟨lk, hlk2⟩ : ∃ q, q = ls[k] := ⟨_, rfl⟩
        have Hlk := hid hlk2
        rw [← Hlk.out] at hcv hsl
        obtain ⟨zk, hzk⟩ : ∃ q, q = L[k] := ⟨_, rfl⟩
        have Hzk := hid hzk
        rw [← Hzk.out] at hsl hzl
        obtain ⟨al, cl, hll⟩ := hsl.out.len
        simp only [List.length_map] at hll
        clear hlx hc1 hst hgr hK1 hcell0 hfro0 hlk2 hzk
        subst hll
        go_wp2_with fail
        refine (lentInts_any _ zk _ hsl.out hzl).mono ?_
        rintro e w2 ⟨r, rfl, hb2, hI⟩
        have hown2 := hid ((Only.of_bl (S := fun _ => False) hb2).owns Hst.out fun _ _ e => e)
        obtain ⟨old3, hcell3⟩ := own_cell hown2.out k hlt
        have hfro3 := hown2.out.frozenAt k
        have hI2 : LentI w.heap.size w2 r ls[k] L[k] := by rw [← Hlk.out, ← Hzk.out]; exact hI.base (Nat.le_trans hbl1.out.lt (Nat.le_refl _))
        have hK3 := hid (HK.out.step (hO1.out.trans (Only.of_bl hb2)) hlt hown2.out (m := r) (List.set_set _) ⟨fun _ _ => hI2, fun h => by omega⟩ (fun b hb => by have := (hI.lt b hb).1; have := hO1.out.size; omega))
        have hbl3 := hid ((hbl1.out.trans hb2).trans_only (Only.setCell (S := fun b => b = w.heap.size) (Only.refl _ _) ⟨w.heap.size, k, none⟩ (.inl rfl) r) (fun n hn => by rw [hn]; exact Nat.le_refl _))
        obtain ⟨ar, cr, hre⟩ := hI.sl.len
        simp only [List.length_map] at hre
        subst hre
        clear hI hI2 hown2 hO1 hbl1 Hst hb2 hsl hcell2
        go_wp2
        go_roundw
        case rel => exact ⟨k + 1, _, by omega, by go_num, hbl3.out, hK3.out⟩
        case measure => simp [intOf]; omega
      · have hnew := World.ownsRow_lit (base := w.heap.size) (e := 3) (size := 1) wr #[.int .i64 (-77)] 1 (by omega) (by unfold maxLen; omega) rfl
        have hK2 := hid (HK.out.step (Only.of_bl ba) hlt hK1.own (m := .slice (some ⟨wr.heap.size, 0, none⟩) 1 1) rfl ⟨fun h => by omega, fun _ => ⟨_, rfl, hnew⟩⟩ (fun b hb => by simp [Value.ownBlock] at hb; omega))
        rw [World.setCell_alloc_past (hn := hB)] at hK2
        clear hst hgr hK1 hcell0 hfro0 hnew
        go_wp2
        go_roundw
        case rel => exact ⟨k + 1, _, by omega, by go_num, hbl1.out, hK2.out⟩
        case measure => simp [intOf]; omega
    · have hk8 : k = L.length + 8 := by omega
      subst hk8
      go_wp2
      go_ret
      exact ⟨_, _, rfl, hbl, HK.out⟩
end Go.Proofs.YtkgjpfamjedncaaGreat
