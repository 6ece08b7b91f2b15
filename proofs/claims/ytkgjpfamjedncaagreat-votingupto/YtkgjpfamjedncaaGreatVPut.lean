-- A promise and a vote are kept.
import Derived.Test.YtkgjpfamjedncaaGreatVMapVote
namespace Go.Proofs.YtkgjpfamjedncaaGreat
open Go.RowKit Go.Maps
attribute [local go_sem ↓] Go.wp_at_zero Go.wp_at_succ

set_option maxRecDepth 100000 in
set_option maxHeartbeats 2000000 in
theorem promise_any (base p bm n : Nat) (E : Int → Ep) (img : List Int) (M : Int → Value) (vi : Value) (t : TypeId) (e b : Int) (w : World) (h : Vs base w p bm n E img M vi t) (hb : base ≤ w.heap.size) (hl : img.length ≤ 30000000) (hn : n ≤ 30000000) (he : (Lit.int .i64 e).wf = true) :
    Calls Tryz.prog 102 #[.pointer (some ⟨p, 0, none⟩), .int .i64 e, .int .i64 b] w fun en w' => ∃ M' vi', en = .returned (.tuple #[]) ∧ Vs base w' p bm (n + 1) (updE E e ⟨b, (E e).ba, (E e).val⟩) (img ++ recB 1 [e, b] []) M' vi' t ∧ Gone p bm M vi M' vi' w w' := by
  obtain ⟨vv, hM, hvv, hap⟩ := h.ep e
  obtain ⟨va, vc, rfl⟩ : ∃ a c, vv = .slice a (E e).val.length c := by
    obtain ⟨a', c', e'⟩ := (ownsRow_sl hvv).len
    rw [ownsRow_len hvv] at e'
    exact ⟨a', c', e'⟩
  have hp := h.lt
  have c0 := h.c0
  have hlook := h.mp.look e he
  rw [hM] at hlook
  have bA := hid ((Bl.refl w).alloc (.cells #[.int .i64 b, .int .i64 (E e).ba, .slice va (E e).val.length vc] 155))
  obtain ⟨w2, hput, hmp2, hO2⟩ := (h.mp.bl (bA.out.drew)).put e he (.agg #[.int .i64 b, .int .i64 (E e).ba, .slice va (E e).val.length vc]) (by unfold maxLen; omega)
  have H := hid h
  have HM := hid hmp2
  have HO := hid hO2
  have HV := hid hvv
  have HA := hid hap
  have HFM := hid hM
  clear h hmp2 hO2 hvv hap hM
  generalize hs : (E e).ba = eb at *
  generalize hv : (E e).val = ev at *
  have Hs := hid hs
  have Hv := hid hv
  clear hs hv
  go_enter Tryz.func102, Tryz.ntmps102
  go_wp2
  go_region
  have bB := hid ((Bl.refl w2).alloc (.cells #[.int .i64 e, .int .i64 b] 3))
  have HVW := hid (H.out.bl (bA.out.drew))
  have OW : Hid (Only (fun x => x = bm) (w.alloc (.cells #[.int .i64 b, .int .i64 eb, .slice va ev.length vc] 155)).drew (w2.alloc (.cells #[.int .i64 e, .int .i64 b] 3))) := HO.out.trans (Only.of_bl bB.out)
  have hP3 := (OW.out.block p HVW.out.lt HVW.out.pm).trans HVW.out.at'
  have hI3 := OW.out.owns HVW.out.own fun b' e1 e2 => HVW.out.mp.ne_own HVW.out.own (by rw [e1, e2])
  have hN : Bs (w2.alloc (.cells #[.int .i64 e, .int .i64 b] 3)) (.slice (some ⟨w2.heap.size, 0, none⟩) 2 2) ([e, b].map (Value.int .i64)) := bs_new w2 3 #[.int .i64 e, .int .i64 b] 2 rfl
  have l2 : w.heap.size ≤ w2.heap.size := Nat.le_trans bA.out.lt HO.out.size
  have HK := hid (keep_raw base p 1 _ t vi img.length (img.map B8) 1 (.slice (some ⟨w2.heap.size, 0, none⟩) 2 2) (.slice none 0 0) [e, b] [] _ hP3 rfl (by rcases H.out.ty with e | e <;> rw [e] <;> decide) hI3 (by simp; omega) hl hN (.inl ⟨rfl, rfl⟩) (by decide) (by decide) (by simp) (by simp) (fun g e1 e2 => by
    simp [Value.ownBlock] at e2
    have := (H.out.own.lt g e1).2
    omega) (fun g e e' => by simp [Value.ownBlock] at e') (fun g e => by simp [Value.ownBlock] at e; subst e; simp) (fun g e => by simp [Value.ownBlock] at e))
  clear hP3 hI3 hN
  go_wp2_with fail
  refine HK.out.mono ?_
  rintro en w' ⟨vi', rfl, hk⟩
  have R := hid (H.out.turn e ⟨b, eb, ev⟩ (.slice va ev.length vc) (bA.out.drew) HO.out HM.out ((Only.of_bl (S := fun _ => False) bA.out.drew).owns HV.out fun _ _ e => e) HA.out (fun g e1 => .inl (.inr ⟨e, by rw [HFM.out]; exact e1⟩)) bB.out hk rfl rfl)
  clear hk HK
  go_wp2
  go_end0
  exact ⟨_, _, rfl, R.out.1, R.out.2⟩

set_option maxRecDepth 100000 in
set_option maxHeartbeats 2000000 in
theorem vote_any (base p bm n : Nat) (E : Int → Ep) (img : List Int) (M : Int → Value) (vi : Value) (t : TypeId) (e b : Int) (v : Value) (ys : List Int) (w : World) (h : Vs base w p bm n E img M vi t) (hb : base ≤ w.heap.size) (hl : img.length ≤ 30000000) (hn : n ≤ 30000000) (he : (Lit.int .i64 e).wf = true)
    (hv : Bs w v (ys.map B8)) (hy : ys.length ≤ 255) (hvb : ∀ g, v.ownBlock = some g → g < w.heap.size ∧ vi.ownBlock ≠ some g ∧ g ≠ bm) :
    Calls Tryz.prog 106 #[.pointer (some ⟨p, 0, none⟩), .int .i64 e, .int .i64 b, v] w fun en w' => ∃ M' vi', en = .returned (.tuple #[]) ∧ Vs base w' p bm (n + 1) (updE E e ⟨b, b, ys⟩) (img ++ recB 2 [e, b] ys) M' vi' t ∧ Gone p bm M vi M' vi' w w' := by
  obtain ⟨va, vc, ev⟩ := hv.len
  rw [List.length_map] at ev
  subst ev
  have hp := h.lt
  have c0 := h.c0
  have H := hid h
  have Hv := hid hv
  have Hvb := hid hvb
  clear h hv hvb
  have HC : Hid (∀ W, Bl w W → Calls Tryz.prog 103 #[.slice va ys.length vc] W fun en w1 => ∃ ua uc w2, en = .returned (.slice ua ys.length uc) ∧ Bl w w1 ∧ w1.cell? ⟨p, 0, none⟩ = some (.map (some bm)) ∧ w1.ownsRow w.heap.size 5 1 (.slice ua ys.length uc) ys.length (ys.map B8) ∧ (Instr.mapUpdate 128 (.map (some bm)) (.int .i64 e) (.agg #[.int .i64 b, .int .i64 b, .slice ua ys.length uc])).run Tryz.prog w1 = .ok () w2 ∧ Mp w2 bm (n + 1) (updM M e (.agg #[.int .i64 b, .int .i64 b, .slice ua ys.length uc])) ∧ Only (fun x => x = bm) w1 w2) := by
    intro W hW
    refine (clone_any (.slice va ys.length vc) ys W (Hv.out.bl hW) (by omega)).mono ?_
    rintro en w1 ⟨u, rfl, hb1, hu⟩
    obtain ⟨ua, uc, rfl⟩ : ∃ a c, u = .slice a ys.length c := by
      obtain ⟨a', c', e'⟩ := (ownsRow_sl hu).len
      rw [ownsRow_len hu] at e'
      exact ⟨a', c', e'⟩
    have hB := hW.trans hb1
    obtain ⟨w2, hput, hmp2, hO2⟩ := (H.out.mp.bl hB).put e he (.agg #[.int .i64 b, .int .i64 b, .slice ua ys.length uc]) (by unfold maxLen; omega)
    exact ⟨ua, uc, w2, rfl, hB, (H.out.bl hB).c0, ownsRow_base hu fun g e => Nat.le_trans hW.lt (hu.lt g e).1, hput, hmp2, hO2⟩
  go_enter Tryz.func106, Tryz.ntmps106
  go_wp2
  go_region_with (go_at_call 103; refine (HC.out _ (by exact (Bl.refl _).drewN _)).mono ?_; rintro en w1 ⟨ua, uc, w2, rfl, hB, c1, hu, hput, hmp2, hO2⟩; have HB := hid hB; have HU := hid hu; have HM := hid hmp2; have HO := hid hO2; clear hB hu hmp2 hO2)
  all_goals
    have bB := hid ((Bl.refl w2).alloc (.cells #[.int .i64 e, .int .i64 b] 3))
    have HVW := hid (H.out.bl HB.out)
    have OW : Hid (Only (fun x => x = bm) w1 (w2.alloc (.cells #[.int .i64 e, .int .i64 b] 3))) := HO.out.trans (Only.of_bl bB.out)
    have hP3 := (OW.out.block p HVW.out.lt HVW.out.pm).trans HVW.out.at'
    have hI3 := OW.out.owns HVW.out.own fun b' e1 e2 => HVW.out.mp.ne_own HVW.out.own (by rw [e1, e2])
    have hV3 := (Hv.out.bl HB.out).only OW.out fun g e e' => (Hvb.out g e).2.2 e'
    have hN : Bs (w2.alloc (.cells #[.int .i64 e, .int .i64 b] 3)) (.slice (some ⟨w2.heap.size, 0, none⟩) 2 2) ([e, b].map (Value.int .i64)) := bs_new w2 3 #[.int .i64 e, .int .i64 b] 2 rfl
    have l2 : w.heap.size ≤ w2.heap.size := Nat.le_trans HB.out.lt HO.out.size
    have HK := hid (keep_raw base p 1 _ t vi img.length (img.map B8) 2 (.slice (some ⟨w2.heap.size, 0, none⟩) 2 2) (.slice va ys.length vc) [e, b] ys _ hP3 rfl (by rcases H.out.ty with e | e <;> rw [e] <;> decide) hI3 (by simp; omega) hl hN hV3 (by decide) (by decide) (by simp) hy (fun g e1 e2 => by
      simp [Value.ownBlock] at e2
      have := (H.out.own.lt g e1).2
      omega) (fun g e e' => (Hvb.out g e').2.1 e) (fun g e => by simp [Value.ownBlock] at e; subst e; simp) (fun g e => by have := (Hvb.out g e).1; simp; omega))
    clear hP3 hI3 hN hV3
    go_wp2_with fail
    refine HK.out.mono ?_
    rintro en w' ⟨vi', rfl, hk⟩
    have R := hid (H.out.turn e ⟨b, b, ys⟩ (.slice ua ys.length uc) HB.out HO.out HM.out (ownsRow_base HU.out fun g e => Nat.le_trans hb (HU.out.lt g e).1) (fun g e e' => by have := (HU.out.lt g e).1; have := (H.out.own.lt g e').2; omega) (fun g e => .inr (HU.out.lt g e).1) bB.out hk rfl rfl)
    clear hk HK
    go_wp2
    go_end0
    exact ⟨_, _, rfl, R.out.1, R.out.2⟩

set_option maxRecDepth 100000 in
set_option maxHeartbeats 400000 in
theorem refused_any (pr ba : Int) (a : Option Addr) (n c : Nat) (w : World) :
    Calls Tryz.prog 101 #[.agg #[.int .i64 pr, .int .i64 ba, .slice a n c]] w fun e w' => e = .returned (.agg #[.int .i64 6, .int .i64 pr, .int .i64 0, .slice none 0 0]) ∧ Bl w w' := by
  go_enter Tryz.func101, Tryz.ntmps101
  go_wp2
  exact bodyPost_ret (v := .agg #[.int .i64 6, .int .i64 pr, .int .i64 0, .slice none 0 0]) (by simp [results, Tryz.results101, go_sem]) rfl ⟨rfl, ((Bl.refl _).alloc _).alloc _⟩

set_option maxRecDepth 100000 in
set_option maxHeartbeats 400000 in
theorem mayBeVoted_any (a : Option Addr) (n c : Nat) (w : World) (hn : (n : Int) ≤ 9223372036854775807) :
    Calls Tryz.prog 104 #[.slice a n c] w fun e w' => e = .returned (.bool (decide (1 ≤ n ∧ n ≤ 255))) ∧ Bl w w' := by
  by_cases h1 : 1 ≤ n
  · by_cases h2 : n ≤ 255
    · have h1' : (1 : Int) ≤ (n : Int) := by omega
      have h2' : (n : Int) ≤ 255 := by omega
      go_enter Tryz.func104, Tryz.ntmps104
      go_wp2
      go_ret
      exact ⟨by rw [show decide (1 ≤ n ∧ n ≤ 255) = true from by simp; omega]; rfl, Bl.refl _⟩
    · have h1' : (1 : Int) ≤ (n : Int) := by omega
      have h2' : ¬ (n : Int) ≤ 255 := by omega
      go_enter Tryz.func104, Tryz.ntmps104
      go_wp2
      go_ret
      exact ⟨rfl, Bl.refl _⟩
  · have h1' : ¬ (1 : Int) ≤ (n : Int) := by omega
    go_enter Tryz.func104, Tryz.ntmps104
    go_wp2
    go_ret
    exact ⟨rfl, Bl.refl _⟩
end Go.Proofs.YtkgjpfamjedncaaGreat
