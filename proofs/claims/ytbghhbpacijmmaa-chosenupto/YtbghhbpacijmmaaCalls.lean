-- Seal, Read and Trim of the cells of a unit.
import Derived.Test.YtbghhbpacijmmaaLook
namespace Go.Proofs.Ytbghhbpacijmmaa
open Go.RowKit
attribute [local go_sem ↓] Go.wp_at_zero Go.wp_at_succ

theorem Ks.bl {base : Nat} {w w' : World} {p : Nat} {a b c d ch ep mk : Int} {ct : Nat → Ct} {img : List Int} {K : Nat → Value} (h : Ks base w p a b c d ch ep mk ct img K) (hb : Bl w w') : Ks base w' p a b c d ch ep mk ct img K :=
  ⟨h.at'.bl hb, h.k0, h.k1, h.k2, h.k3, h.k4, h.k5, h.k6, (Only.of_bl (S := fun _ => False) hb).owns h.own fun _ _ e => e, h.kd, h.cl, h.ca, fun i hi => (Only.of_bl (S := fun _ => False) hb).owns (h.val i hi) fun _ _ e => e, h.apart⟩

/-- A block that is none of the unit's may turn. -/
theorem Ks.other {base : Nat} {w w' : World} {p g : Nat} {a b c d ch ep mk : Int} {ct : Nat → Ct} {img : List Int} {K : Nat → Value} (h : Ks base w p a b c d ch ep mk ct img K) (ho : Only (fun x => x = g) w w') {cs : Array Value} (hg : w.heap[g]? = some (.cells cs 34 (0, 0))) (hp : p ≠ g) : Ks base w' p a b c d ch ep mk ct img K :=
  ⟨h.at'.only ho hp, h.k0, h.k1, h.k2, h.k3, h.k4, h.k5, h.k6, ho.owns h.own fun b e e' => own_ne_block h.own hg (by decide) (by rw [e, e']), h.kd, h.cl, h.ca, fun i hi => ho.owns (h.val i hi) fun b e e' => own_ne_block (h.val i hi) hg (by decide) (by rw [e, e']), h.apart⟩

theorem Only.trans_new {S T : Nat → Prop} {a b c : World} (h : Only S a b) (k : Only T b c) (hs : ∀ n, T n → a.heap.size ≤ n) : Only S a c :=
  ⟨k.os.trans h.os, k.tape.trans h.tape, k.output.trans h.output, Nat.le_trans h.size k.size, fun i hi hn => by rw [k.block i (Nat.lt_of_lt_of_le hi h.size) (fun e => by have := hs i e; omega), h.block i hi hn]⟩

set_option maxRecDepth 100000 in
set_option maxHeartbeats 2000000 in
theorem seal_any (base p : Nat) (a b c d ch ep mk : Int) (ct : Nat → Ct) (img : List Int) (K : Nat → Value) (ep' : Int) (w : World) (h : Ks base w p a b c d ch ep mk ct img K) (hb : base ≤ w.heap.size) (hl : img.length ≤ 30000000) :
    Calls Try.prog 25 #[.pointer (some ⟨p, 0, none⟩), .int .i64 ep'] w fun e w' => ∃ K', e = .returned (if ep' < ep then reply 5 ep 0 0 0 0 (.slice none 0 0) else reply 1 ep' 0 0 0 0 (.slice none 0 0)) ∧ Ks base w' p a b c d ch (if ep' < ep then ep else ep') mk ct (if ep' < ep ∨ ep' = ep then img else img ++ recB 1 [ep'] []) K' ∧ Only (fun b => b = p ∨ (K 71).ownBlock = some b) w w' := by
  have H := hid h
  have hp := h.at'.lt
  have c5 := h.at'.cell 5 (by decide)
  rw [h.k5] at c5
  clear h
  have bA := hid ((Bl.refl w).alloc (.cells blank 34))
  have HN := hid (heap_alloc_new w (.cells blank 34))
  by_cases he : ep' < ep
  · simp only [he, if_true, true_or]
    go_enter Try.func25, Try.ntmps25
    go_wp2_with fail
    refine (sealed_any p K ep _ (H.out.at'.bl bA.out) H.out.k5).mono ?_
    rintro e w' ⟨rfl, hb2⟩
    have HN2 := hid ((hb2.heap (by simp)).trans HN.out)
    have HK2 := hid ((H.out.bl bA.out).bl hb2)
    have HB2 := hid (bA.out.trans hb2)
    have lN : w.heap.size < w'.heap.size := (Array.getElem?_eq_some_iff.1 HN2.out).1
    obtain ⟨n0, n1, n2, n3, n4, n5, n6, f0, f1, f2, f3, f4, f5, f6⟩ := blank_row HN2.out
    unfold reply
    clear hb2
    go_wp2
    have F := Only.set7 (w := w') (S := fun b => b = w.heap.size) rfl (.int .i64 5) (.int .i64 ep) (.int .i64 0) (.int .i64 0) (.int .i64 0) (.int .i64 0) (.slice none 0 0)
    refine bodyPost_ret (v := reply 5 ep 0 0 0 0 (.slice none 0 0)) (by simp [results, Try.results25, go_sem, reply, n0, n1, n2, n3, n4, n5, n6]) rfl ⟨K, rfl, HK2.out.other F HN2.out (by omega), Only.of_bl (HB2.out.trans_only F (fun n e => Nat.le_of_eq e.symm))⟩
  · have E : Hid ((if ep' < ep ∨ ep' = ep then img else img ++ recB 1 [ep'] []) = img ++ if ep' = ep then [] else recB 1 [ep'] []) := by
      unfold Hid
      by_cases hq : ep' = ep
      · rw [if_pos (.inr hq), if_pos hq, List.append_nil]
      · rw [if_neg (fun h => h.elim he hq), if_neg hq]
    rw [E.out, if_neg he, if_neg he]
    have Hr := hid (reach_any base p a b c d ch ep mk ct img K ep' _ (H.out.bl bA.out) (Nat.le_trans hb bA.out.lt) hl)
    generalize (img ++ if ep' = ep then [] else recB 1 [ep'] []) = img' at *
    clear E
    go_enter Try.func25, Try.ntmps25
    go_wp2_with fail
    refine Hr.out.mono ?_
    rintro e w' ⟨K', rfl, hk, ho, _⟩
    have hne : Hid (¬ (w.heap.size = p ∨ (K 71).ownBlock = some w.heap.size)) := by
      rintro (e | e)
      · omega
      · exact Nat.lt_irrefl _ (H.out.own.lt _ e).2
    have HN2 := hid ((ho.block _ (by simp) hne.out).trans HN.out)
    have HK2 := hid hk
    have d5 := hk.at'.cell 5 (by decide)
    rw [hk.k5] at d5
    have HO2 := hid ((Only.of_bl bA.out).trans ho)
    have lN : w.heap.size < w'.heap.size := (Array.getElem?_eq_some_iff.1 HN2.out).1
    obtain ⟨n0, n1, n2, n3, n4, n5, n6, f0, f1, f2, f3, f4, f5, f6⟩ := blank_row HN2.out
    clear hk ho c5 Hr
    go_wp2
    have F := Only.set7 (w := w') (S := fun b => b = w.heap.size) rfl (.int .i64 1) (.int .i64 ep') (.int .i64 0) (.int .i64 0) (.int .i64 0) (.int .i64 0) (.slice none 0 0)
    refine bodyPost_ret (v := reply 1 ep' 0 0 0 0 (.slice none 0 0)) (by simp [results, Try.results25, go_sem, reply, n0, n1, n2, n3, n4, n5, n6]) rfl ⟨K', rfl, HK2.out.other F HN2.out (by omega), HO2.out.trans_new F (fun b e => Nat.le_of_eq e.symm)⟩

set_option maxRecDepth 100000 in
set_option maxHeartbeats 2000000 in
theorem readOld_any (base p : Nat) (a b c d ch ep mk : Int) (ct : Nat → Ct) (img : List Int) (K : Nat → Value) (ep' x : Int) (w : World) (h : Ks base w p a b c d ch ep mk ct img K) (he : ep' < ep) :
    Calls Try.prog 22 #[.pointer (some ⟨p, 0, none⟩), .int .i64 ep', .int .i64 x] w fun e w' => e = .returned (reply 5 ep 0 0 0 0 (.slice none 0 0)) ∧ Ks base w' p a b c d ch ep mk ct img K ∧ Bl w w' := by
  have H := hid h
  have hp := h.at'.lt
  have c5 := h.at'.cell 5 (by decide)
  rw [h.k5] at c5
  clear h
  have bA := hid ((Bl.refl w).alloc (.cells blank 34))
  have HN := hid (heap_alloc_new w (.cells blank 34))
  go_enter Try.func22, Try.ntmps22
  go_wp2_with fail
  refine (sealed_any p K ep _ (H.out.at'.bl bA.out) H.out.k5).mono ?_
  rintro e w' ⟨rfl, hb2⟩
  have HN2 := hid ((hb2.heap (by simp)).trans HN.out)
  have HK2 := hid ((H.out.bl bA.out).bl hb2)
  have HB2 := hid (bA.out.trans hb2)
  have lN : w.heap.size < w'.heap.size := (Array.getElem?_eq_some_iff.1 HN2.out).1
  obtain ⟨n0, n1, n2, n3, n4, n5, n6, f0, f1, f2, f3, f4, f5, f6⟩ := blank_row HN2.out
  unfold reply
  clear hb2
  go_wp2
  have F := Only.set7 (w := w') (S := fun b => b = w.heap.size) rfl (.int .i64 5) (.int .i64 ep) (.int .i64 0) (.int .i64 0) (.int .i64 0) (.int .i64 0) (.slice none 0 0)
  exact bodyPost_ret (v := reply 5 ep 0 0 0 0 (.slice none 0 0)) (by simp [results, Try.results22, go_sem, reply, n0, n1, n2, n3, n4, n5, n6]) rfl ⟨rfl, HK2.out.other F HN2.out (by omega), HB2.out.trans_only F (fun n e => Nat.le_of_eq e.symm)⟩

set_option maxRecDepth 100000 in
set_option maxHeartbeats 2000000 in
theorem readNew_any (base p : Nat) (a b c d ch ep mk : Int) (ct : Nat → Ct) (img : List Int) (K : Nat → Value) (ep' x : Int) (w : World) (h : Ks base w p a b c d ch ep mk ct img K) (hb : base ≤ w.heap.size) (hl : img.length ≤ 30000000) (hct : ∀ i, i < 16 → (ct i).val.length ≤ 255) (he : ¬ ep' < ep) (wh m : Int) (t : Ct) (hlook : lookC a b c d ch mk ct x = (wh, m, t)) :
    Calls Try.prog 22 #[.pointer (some ⟨p, 0, none⟩), .int .i64 ep', .int .i64 x] w fun e w' => ∃ K' v', e = .returned (reply wh 0 m t.kd t.cl t.ca v') ∧ w'.ownsRow w.heap.size 5 1 v' t.val.length (t.val.map B8) ∧ Ks base w' p a b c d ch ep' mk ct (img ++ if ep' = ep then [] else recB 1 [ep'] []) K' ∧ Only (fun b => b = p ∨ (K 71).ownBlock = some b) w w' ∧ (ep' = ep → K' = K ∧ Bl w w') := by
  have H := hid h
  have hp := h.at'.lt
  have c5 := h.at'.cell 5 (by decide)
  rw [h.k5] at c5
  clear h
  have bA := hid ((Bl.refl w).alloc (.cells blank 34))
  have HN := hid (heap_alloc_new w (.cells blank 34))
  have Hr := hid (reach_any base p a b c d ch ep mk ct img K ep' _ (H.out.bl bA.out) (Nat.le_trans hb bA.out.lt) hl)
  generalize (img ++ if ep' = ep then [] else recB 1 [ep'] []) = img' at *
  have HL : Hid (∀ W K', Ks base W p a b c d ch ep' mk ct img' K' → _) := fun W K' hk => look_any base p a b c d ch ep' mk ct img' K' x W hk hct
  rw [hlook] at HL
  obtain ⟨tk, tl, ta, tv⟩ := t
  simp only at HL ⊢
  clear hct hlook
  go_enter Try.func22, Try.ntmps22
  go_wp2_with fail
  refine Hr.out.mono ?_
  rintro e w' ⟨K', rfl, hk, ho, hs⟩
  have Hs := hid hs
  have hne : Hid (¬ (w.heap.size = p ∨ (K 71).ownBlock = some w.heap.size)) := by
    rintro (e | e)
    · omega
    · exact Nat.lt_irrefl _ (H.out.own.lt _ e).2
  have HN2 := hid ((ho.block _ (by simp) hne.out).trans HN.out)
  have HK2 := hid hk
  have HO2 := hid ((Only.of_bl bA.out).trans ho)
  have lN : w.heap.size < w'.heap.size := (Array.getElem?_eq_some_iff.1 HN2.out).1
  clear hk ho hs c5 Hr
  go_wp2_with fail
  refine (HL.out _ _ HK2.out).mono ?_
  rintro e w2 ⟨v', rfl, hv, hb2⟩
  obtain ⟨va, vc, ev⟩ : ∃ a c, v' = .slice a tv.length c := by
    obtain ⟨a', c', e'⟩ := (ownsRow_sl hv).len
    rw [ownsRow_len hv] at e'
    exact ⟨a', c', e'⟩
  subst ev
  have HN3 := hid ((hb2.heap lN).trans HN2.out)
  have HK3 := hid (HK2.out.bl hb2)
  have HO3 := hid (HO2.out.trans (Only.of_bl hb2))
  have Hv := hid (ownsRow_base (base' := w.heap.size) hv (fun b hb' => Nat.le_trans (Nat.le_of_lt lN) (hv.lt b hb').1))
  obtain ⟨n0, n1, n2, n3, n4, n5, n6, f0, f1, f2, f3, f4, f5, f6⟩ := blank_row HN3.out
  unfold reply
  have Hs3 : Hid (ep' = ep → K' = K ∧ Bl w w2) := fun e => ⟨(Hs.out e).1, (bA.out.trans (Hs.out e).2).trans hb2⟩
  clear hb2 hv HL
  go_wp2
  have F := Only.set7 (w := w2) (S := fun b => b = w.heap.size) rfl (.int .i64 wh) (.int .i64 0) (.int .i64 m) (.int .i64 tk) (.int .i64 tl) (.int .i64 ta) (.slice va tv.length vc)
  exact bodyPost_ret (v := reply wh 0 m tk tl ta (.slice va tv.length vc)) (by simp [results, Try.results22, go_sem, reply, n0, n1, n2, n3, n4, n5, n6]) rfl ⟨K', _, rfl, F.owns Hv.out fun b hb e => own_ne_block Hv.out HN3.out (by decide) (by rw [hb, e]), HK3.out.other F HN3.out (by omega), HO3.out.trans_new F (fun b e => Nat.le_of_eq e.symm), fun e => ⟨(Hs3.out e).1, (Hs3.out e).2.trans_only F (fun n e => by omega)⟩⟩

set_option maxRecDepth 100000 in
set_option maxHeartbeats 2000000 in
theorem trimOld_any (base p : Nat) (a b c d ch ep mk : Int) (ct : Nat → Ct) (img : List Int) (K : Nat → Value) (ep' x : Int) (w : World) (h : Ks base w p a b c d ch ep mk ct img K) (he : ep' < ep) :
    Calls Try.prog 26 #[.pointer (some ⟨p, 0, none⟩), .int .i64 ep', .int .i64 x] w fun e w' => e = .returned (reply 5 ep 0 0 0 0 (.slice none 0 0)) ∧ Ks base w' p a b c d ch ep mk ct img K ∧ Bl w w' := by
  have H := hid h
  have hp := h.at'.lt
  have c5 := h.at'.cell 5 (by decide)
  rw [h.k5] at c5
  clear h
  have bA := hid ((Bl.refl w).alloc (.cells blank 34))
  have HN := hid (heap_alloc_new w (.cells blank 34))
  go_enter Try.func26, Try.ntmps26
  go_wp2_with fail
  refine (sealed_any p K ep _ (H.out.at'.bl bA.out) H.out.k5).mono ?_
  rintro e w' ⟨rfl, hb2⟩
  have HN2 := hid ((hb2.heap (by simp)).trans HN.out)
  have HK2 := hid ((H.out.bl bA.out).bl hb2)
  have HB2 := hid (bA.out.trans hb2)
  have lN : w.heap.size < w'.heap.size := (Array.getElem?_eq_some_iff.1 HN2.out).1
  obtain ⟨n0, n1, n2, n3, n4, n5, n6, f0, f1, f2, f3, f4, f5, f6⟩ := blank_row HN2.out
  unfold reply
  clear hb2
  go_wp2
  have F := Only.set7 (w := w') (S := fun b => b = w.heap.size) rfl (.int .i64 5) (.int .i64 ep) (.int .i64 0) (.int .i64 0) (.int .i64 0) (.int .i64 0) (.slice none 0 0)
  exact bodyPost_ret (v := reply 5 ep 0 0 0 0 (.slice none 0 0)) (by simp [results, Try.results26, go_sem, reply, n0, n1, n2, n3, n4, n5, n6]) rfl ⟨rfl, HK2.out.other F HN2.out (by omega), HB2.out.trans_only F (fun n e => Nat.le_of_eq e.symm)⟩

set_option maxRecDepth 100000 in
set_option maxHeartbeats 2000000 in
theorem trimNew_any (base p : Nat) (a b c d ch ep mk : Int) (ct : Nat → Ct) (img : List Int) (K : Nat → Value) (ep' mk' : Int) (w : World) (h : Ks base w p a b c d ch ep mk ct img K) (hb : base ≤ w.heap.size) (hl : img.length ≤ 30000000) (he : ¬ ep' < ep) :
    Calls Try.prog 26 #[.pointer (some ⟨p, 0, none⟩), .int .i64 ep', .int .i64 mk'] w fun e w' => ∃ K', e = .returned (reply 1 0 (if mk < mk' then mk' else mk) 0 0 0 (.slice none 0 0)) ∧ Ks base w' p a b c d ch ep' (if mk < mk' then mk' else mk) ct (img ++ if mk < mk' then recB 2 [ep', mk'] [] else if ep' = ep then [] else recB 1 [ep'] []) K' ∧ Only (fun b => b = p ∨ (K 71).ownBlock = some b) w w' := by
  have H := hid h
  have hp := h.at'.lt
  have c5 := h.at'.cell 5 (by decide)
  rw [h.k5] at c5
  have c6 := h.at'.cell 6 (by decide)
  rw [h.k6] at c6
  clear h
  have bA := hid ((Bl.refl w).alloc (.cells blank 34))
  have HN := hid (heap_alloc_new w (.cells blank 34))
  have hne : Hid (¬ (w.heap.size = p ∨ (K 71).ownBlock = some w.heap.size)) := by
    rintro (e | e)
    · omega
    · exact Nat.lt_irrefl _ (H.out.own.lt _ e).2
  by_cases hm : mk < mk'
  · rw [if_pos hm, if_pos hm]
    have Hr := hid (lay_any base p a b c d ch ep mk ct img K ep' mk' _ (H.out.bl bA.out) (Nat.le_trans hb bA.out.lt) hl)
    generalize (img ++ recB 2 [ep', mk'] []) = img' at *
    go_enter Try.func26, Try.ntmps26
    go_wp2_with fail
    refine Hr.out.mono ?_
    rintro e w' ⟨K', rfl, hk, ho⟩
    have HN2 := hid ((ho.block _ (by simp) hne.out).trans HN.out)
    have HK2 := hid hk
    have d6 := hk.at'.cell 6 (by decide)
    rw [hk.k6] at d6
    have HO2 := hid ((Only.of_bl bA.out).trans ho)
    have lN : w.heap.size < w'.heap.size := (Array.getElem?_eq_some_iff.1 HN2.out).1
    obtain ⟨n0, n1, n2, n3, n4, n5, n6, f0, f1, f2, f3, f4, f5, f6⟩ := blank_row HN2.out
    clear hk ho c5 c6 Hr
    go_wp2
    have F := Only.set7 (w := w') (S := fun b => b = w.heap.size) rfl (.int .i64 1) (.int .i64 0) (.int .i64 mk') (.int .i64 0) (.int .i64 0) (.int .i64 0) (.slice none 0 0)
    exact bodyPost_ret (v := reply 1 0 mk' 0 0 0 (.slice none 0 0)) (by simp [results, Try.results26, go_sem, reply, n0, n1, n2, n3, n4, n5, n6]) rfl ⟨K', rfl, HK2.out.other F HN2.out (by omega), HO2.out.trans_new F (fun b e => Nat.le_of_eq e.symm)⟩
  · rw [if_neg hm, if_neg hm]
    have Hr := hid (reach_any base p a b c d ch ep mk ct img K ep' _ (H.out.bl bA.out) (Nat.le_trans hb bA.out.lt) hl)
    generalize (img ++ if ep' = ep then [] else recB 1 [ep'] []) = img' at *
    go_enter Try.func26, Try.ntmps26
    go_wp2_with fail
    refine Hr.out.mono ?_
    rintro e w' ⟨K', rfl, hk, ho, _⟩
    have HN2 := hid ((ho.block _ (by simp) hne.out).trans HN.out)
    have HK2 := hid hk
    have d6 := hk.at'.cell 6 (by decide)
    rw [hk.k6] at d6
    have HO2 := hid ((Only.of_bl bA.out).trans ho)
    have lN : w.heap.size < w'.heap.size := (Array.getElem?_eq_some_iff.1 HN2.out).1
    obtain ⟨n0, n1, n2, n3, n4, n5, n6, f0, f1, f2, f3, f4, f5, f6⟩ := blank_row HN2.out
    clear hk ho c5 c6 Hr
    go_wp2
    have F := Only.set7 (w := w') (S := fun b => b = w.heap.size) rfl (.int .i64 1) (.int .i64 0) (.int .i64 mk) (.int .i64 0) (.int .i64 0) (.int .i64 0) (.slice none 0 0)
    exact bodyPost_ret (v := reply 1 0 mk 0 0 0 (.slice none 0 0)) (by simp [results, Try.results26, go_sem, reply, n0, n1, n2, n3, n4, n5, n6]) rfl ⟨K', rfl, HK2.out.other F HN2.out (by omega), HO2.out.trans_new F (fun b e => Nat.le_of_eq e.symm)⟩
end Go.Proofs.Ytbghhbpacijmmaa
