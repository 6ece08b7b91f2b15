-- A call begins.
import Derived.Test.YtbghhbpacijmmaaGreatDDo
import Derived.Test.YtbghhbpacijmmaaGreatFLine
namespace Go.Proofs.YtbghhbpacijmmaaGreat
open Go.RowKit
attribute [local go_sem ↓] Go.wp_at_zero Go.wp_at_succ

theorem new1 (w : World) (X Y : Obj) : ((w.alloc X).alloc Y).heap[w.heap.size + 1]? = some Y := by
  have := heap_alloc_new (w.alloc X) Y
  simpa using this

section
variable {p bm : Nat} {a b c d id : Int} {rs : Value} {ps : List Nat} {K : Nat → Value}
theorem own_ne_map {w : World} {b : Nat} {es : Array MapEntry} {k : Nat} (hb : w.heap[b]? = some (.map es k)) {base : Nat} {e : TypeId} {size : Nat} {v : Value} {n : Nat} {xs : List Value} (ho : w.ownsRow base e size v n xs) : v.ownBlock ≠ some b := by
  intro e'
  obtain ⟨c, hc⟩ := own_type ho b e'
  rw [hb] at hc; simp at hc

theorem Cs.begun {w W w1 : World} (h : Cs w p bm a b c d id rs ps K) {arr : Array Value} {q l : Nat} (hB : Bl w W) (hq : W.heap[q]? = some (.cells arr 168 (0, 0))) (hs : arr.size = 29) (h0 : arr[0]? = some (.int .i64 1)) (h1 : arr[1]? = some (.int .i64 ps.length)) (h24 : arr[26]? = some (.slice none 0 0)) (hl : l < 8) (h2 : arr[2]? = some (.int .i64 l))
    (hgrow : W.grownBy w1 rs.ownBlock) {rs' : Value} (hown : w1.ownsRow 0 43 3 rs' (ps.length + 1) (zs (ps.length + 1))) :
    w1.cell? ⟨p, 7, none⟩ = some rs ∧ w1.frozen? ⟨p, 7, none⟩ = false ∧ w1.cell? ⟨p, 8, none⟩ = some (.map (some bm)) ∧ (w1.setCell ⟨p, 7, none⟩ rs').heap[bm]? = some (.map (ents ps) ps.length) ∧
    Cs (setMap (w1.setCell ⟨p, 7, none⟩ rs') bm (.map (ents (ps ++ [q])) (ps.length + 1))) p bm a b c d id rs' (ps ++ [q]) (upd K 7 rs') ∧
    Only (fun k => k = p ∨ k = bm ∨ rs.ownBlock = some k) w (setMap (w1.setCell ⟨p, 7, none⟩ rs') bm (.map (ents (ps ++ [q])) (ps.length + 1))) := by
  have hW := h.bl hB
  have O1 := Only.of_grown hgrow
  have P1 : At 55 114 w1 p K := hW.at'.only O1 fun e => hW.at'.ne_own hW.own (by decide) e.symm
  have M1 : w1.heap[bm]? = some (.map (ents ps) ps.length) := (O1.block bm hW.blt fun e => own_ne_map hW.mp hW.own e.symm).trans hW.mp
  have hpb : p ≠ bm := P1.ne_map M1
  have hlq : q < W.heap.size := (Array.getElem?_eq_some_iff.1 hq).1
  have Q1 : w1.heap[q]? = some (.cells arr 168 (0, 0)) := (O1.block _ hlq fun e => own_ne_block hW.own hq (by decide) e.symm).trans hq
  have O2 : Only (fun k => k = p) w1 (w1.setCell ⟨p, 7, none⟩ rs') := (Only.refl (fun k => k = p) w1).setCell ⟨p, 7, none⟩ (.inl rfl) rs'
  have M2 := (O2.block bm (Array.getElem?_eq_some_iff.1 M1).1 (Ne.symm hpb)).trans M1
  have O3 := setMap_only (w1.setCell ⟨p, 7, none⟩ rs') bm (.map (ents (ps ++ [q])) (ps.length + 1))
  have C8 : w1.cell? ⟨p, 8, none⟩ = some (.map (some bm)) := by rw [P1.cell 8 (by decide), h.k8]
  have C7 : w1.cell? ⟨p, 7, none⟩ = some rs := by rw [P1.cell 7 (by decide), h.k7]
  refine ⟨C7, P1.frozen 7, C8, M2, ?_, (((Only.of_bl hB).trans (O1.mono fun k _ e => .inr (.inr e.symm))).trans (O2.mono fun k _ e => .inl e)).trans (O3.mono fun k _ e => .inr (.inl e))⟩
  have P3 := (P1.set 7 rs').only O3 hpb
  have keep : ∀ {q' : Nat} {Q : Nat → Value}, At 29 168 w1 q' Q → At 29 168 (setMap (w1.setCell ⟨p, 7, none⟩ rs') bm (.map (ents (ps ++ [q])) (ps.length + 1))) q' Q := fun hQ =>
    (hQ.only O2 fun e => P1.ne hQ (by decide) e.symm).only O3 fun e => hQ.ne_map M1 e
  refine ⟨P3, ?_, ?_, ?_, ?_, ?_, upd_same _ _ _, ?_, (setMap_at (Array.getElem?_eq_some_iff.1 M2).1 _).trans (by simp), fun i hi => ?_, ?_⟩
  · rw [upd_other _ _ _ _ (by decide)]; exact h.k0
  · rw [upd_other _ _ _ _ (by decide)]; exact h.k1
  · rw [upd_other _ _ _ _ (by decide)]; exact h.k2
  · rw [upd_other _ _ _ _ (by decide)]; exact h.k3
  · rw [upd_other _ _ _ _ (by decide)]; exact h.k4
  · rw [upd_other _ _ _ _ (by decide)]; exact h.k8
  · by_cases e : i < ps.length
    · rw [List.getElem_append_left e]
      obtain ⟨Q, g1, g2⟩ := hW.call i e
      exact ⟨Q, keep (g1.only O1 fun e => g1.ne_own hW.own (by decide) e.symm), g2⟩
    · have : i = ps.length := by simp at hi; omega
      subst this
      rw [List.getElem_append_right (Nat.le_refl _)]
      simp only [Nat.sub_self, List.getElem_cons_zero]
      refine ⟨fun i => (arr[i]?).getD undef, keep ⟨arr, Q1, fun i hi => by simp [Array.getElem?_eq_getElem (show i < arr.size by omega)]⟩, by simp [h0], by simp [h1], by simp [h24], l, hl, by simp [h2]⟩
  · rw [List.length_append, List.length_singleton]
    have hne : ∀ b, rs'.ownBlock = some b → b ≠ p := fun b e e' => P1.ne_own hown (by decide) (e' ▸ e)
    have hnb : ∀ b, rs'.ownBlock = some b → b ≠ bm := fun b e e' => own_ne_map M1 hown (e' ▸ e)
    exact O3.owns (O2.owns hown hne) hnb

theorem callAt (w : World) (arr : Array Value) (Y : Obj) : ((w.alloc (.cells arr 168)).alloc Y).heap[w.heap.size]? = some (.cells arr 168 (0, 0)) :=
  (heap_alloc_old (w.alloc (.cells arr 168)) Y (by simp)).trans (heap_alloc_new w _)

set_option maxRecDepth 100000 in
set_option maxHeartbeats 4000000 in
theorem begin_new (w : World) (h : Cs w p bm a b c d id rs ps K) (hn : ps.length < 8) :
    Calls Tryz.prog 86 #[.pointer (some ⟨p, 0, none⟩), .int .i64 1] w fun e w' => (∃ q rs' K', e = .returned (.tuple #[.pointer (some ⟨q, 0, none⟩), .int .i64 0]) ∧ w.heap.size ≤ q ∧ Cs w' p bm a b c d id rs' (ps ++ [q]) K' ∧ Only (fun k => k = p ∨ k = bm ∨ rs.ownBlock = some k) w w' ∧ ∀ g, rs'.ownBlock = some g → rs.ownBlock = some g ∨ w.heap.size ≤ g) := by
  obtain ⟨i43, hi, hz0, hz1, hz2⟩ := info_parts Tryz.info43
  obtain ⟨ad, cc, hrs⟩ := h.shape
  have h4 := h.c4
  have h7 := h.c7
  have h8 := h.c8
  have hl := len98 w bm ps h.mp
  have H := hid h
  have hlt := h.at'.lt
  have hltb := h.blt
  have hpb : p ≠ bm := h.at'.ne_map h.mp
  have hne : ((ps.length : Int) == 8) = false := by simp; omega
  have hml : Hid (ps.length + 1 ≤ maxLen) := by unfold Hid maxLen; omega
  have hby : Hid ((ps.length + 1) * 40 ≤ 140737488355328) := by unfold Hid; omega
  have HF : Hid (∀ W, Bl w W → Calls Tryz.prog 148 #[.pointer (some ⟨p, 0, none⟩)] W fun en w' => (∃ l : Nat, l < 8 ∧ en = .returned (.int .i64 l)) ∧ Bl W w') := fun W hW => by
    have hC := h.bl hW
    refine freeLine_ex hC.c8 hC.at'.lt hC.mp (fun x hx => ?_) (ents_born ps) (fun x hx => ?_) (by rw [ents_size]; exact hn)
    · obtain ⟨i, hi, rfl⟩ := ents_mem hx
      exact hi
    · obtain ⟨i, hi, rfl⟩ := ents_mem hx
      obtain ⟨Q, q1, _, _, _, l, hl, e2⟩ := hC.call i hi
      exact ⟨ps[i], l, rfl, by rw [q1.cell 2 (by decide), e2], hl, q1.lt⟩
  subst hrs
  clear h
  go_enter Tryz.func86, Tryz.ntmps86
  go_upto_region 4 with fail
  go_cut [7] (fun x wx => ∃ (q l : Nat) (arr : Array Value), x = .pointer (some ⟨q, 0, none⟩) ∧ w.heap.size ≤ q ∧ Bl w wx ∧ wx.heap[q]? = some (.cells arr 168 (0, 0)) ∧ arr.size = 29 ∧ arr[0]? = some (.int .i64 1) ∧ arr[1]? = some (.int .i64 ps.length) ∧ arr[26]? = some (.slice none 0 0) ∧ l < 8 ∧ arr[2]? = some (.int .i64 l))
  case first =>
    go_region_held3 (fun W => W.cell? ⟨p, 4, none⟩ = some (.int .i64 id)) (go_keep) (first | (go_at_call 148; refine (HF.out _ ?hb).mono ?_; (case hb => first | exact Bl.refl _ | exact (Bl.refl _).drew | exact (Bl.refl _).drewN _); rintro en w2 ⟨⟨l, hl8, rfl⟩, hb2⟩; have hB : Bl w w2 := Bl.trans (by first | exact Bl.refl _ | exact (Bl.refl _).drew | exact (Bl.refl _).drewN _) hb2; have z4 := (hB.cell hlt).trans h4; have HB2 := hid hB; have HL := hid hl8; clear hb2 hB hl8))
    all_goals (go_wp2_with fail; go_meet)
    all_goals exact ⟨_, l, _, rfl, HB2.out.lt, HB2.out.alloc _, heap_alloc_new _ _, rfl, rfl, rfl, rfl, HL.out, rfl⟩
  case rest =>
    obtain ⟨q, l, arr, rfl, hq0, hB, hqa, s0, s1, s2, s3, hl8, s4⟩ := hcut
    have d7 := (hB.cell hlt).trans h7
    have d8 := (hB.cell hlt).trans h8
    have hltW := Nat.lt_of_lt_of_le hlt hB.lt
    have OW := hid ((Only.of_bl (S := fun _ => False) hB).owns H.out.own fun _ _ e => e)
    have HBq := hid (And.intro hB (And.intro hqa (And.intro s0 (And.intro s1 (And.intro s2 (And.intro s3 s4))))))
    have hBlt := hB.lt
    have hnew := hid (World.news_of_block (cs := #[.int .i64 0, .int .i64 0, .slice none 0 0]) (t := 43) (fr := (0, 0)) (heap_alloc_new wc _))
    clear h4 h7 h8 hl hB hqa s0 s1 s2 s3 s4
    go_wp2_with (at_builtin; refine wpList_append_lies _ rfl _ _ 97 rfl 0 43 i43 _ 3 40 Tryz.underlying97 hi hz0 hz1 hz2 rfl (by decide) _ ps.length _ rfl (OW.out.alloc _) ⟨wc.heap.size, 0, none⟩ 1 1 [.int .i64 0, .int .i64 0, .slice none 0 0] rfl rfl hnew.out (by simp [Value.oneCell']) (by decide) hml.out hby.out (by simp) (wc.heap.size + 1) (by simp) ?_)
    intro g cap w1 hown hgrow hat hlt1
    obtain ⟨a1, a2, a3, a4, a5, a6, a7⟩ := HBq.out
    obtain ⟨g1, g2, g3, g4, g5, g6⟩ := H.out.begun (a1.alloc _) ((heap_alloc_old wc _ (Array.getElem?_eq_some_iff.1 a2).1).trans a2) a3 a4 a5 a6 hl8 a7 hgrow hown
    clear a1 a2 a3 a4 a5 a6 a7
    have hput := put_new _ bm ps g4 q
    have G5 := hid g5
    have G6 := hid g6
    have hp8 : (8 : Nat) ≠ 7 := by decide
    have Hat := hid hat
    have Hq0 := hid hq0
    clear g6 g5 g4 hown hgrow hat H hq0
    go_wp2
    go_ret2
    exact ⟨q, _, _, rfl, Hq0.out, G5.out, G6.out, fun g' e => by
      simp [Value.ownBlock] at e
      subst e
      exact Hat.out.imp (fun e => e) fun e => by omega⟩
end
end Go.Proofs.YtbghhbpacijmmaaGreat
