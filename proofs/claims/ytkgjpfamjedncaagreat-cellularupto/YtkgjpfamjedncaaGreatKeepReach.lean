-- The cells of a unit as a block; a record is kept.
-- The cells of a unit as they are told; epoch and mark are laid.
import Derived.Test.YtkgjpfamjedncaaGreatLocateSmall
namespace Go.Proofs.YtkgjpfamjedncaaGreat
open Go.RowKit
attribute [local go_sem ↓] Go.wp_at_zero Go.wp_at_succ

/-- The cells of a unit lie in block p: the value of each cell of it. -/
def At (w : World) (p : Nat) (K : Nat → Value) : Prop :=
  ∃ arr t, w.heap[p]? = some (.cells arr t (0, 0)) ∧ (t = 122 ∨ t = 124) ∧ ∀ i, i < 72 → arr[i]? = some (K i)
def upd (K : Nat → Value) (i : Nat) (u : Value) : Nat → Value := fun j => if j = i then u else K j
theorem upd_same (K : Nat → Value) (i : Nat) (u : Value) : upd K i u i = u := by simp [upd]
theorem upd_other (K : Nat → Value) (i j : Nat) (u : Value) (h : j ≠ i) : upd K i u j = K j := by simp [upd, h]
theorem At.lt {w : World} {p : Nat} {K : Nat → Value} (h : At w p K) : p < w.heap.size := by
  obtain ⟨arr, t, hb, _⟩ := h; exact (Array.getElem?_eq_some_iff.1 hb).1
theorem At.cell {w : World} {p : Nat} {K : Nat → Value} (h : At w p K) (i : Nat) (hi : i < 72) : w.cell? ⟨p, i, none⟩ = some (K i) := by
  obtain ⟨arr, t, hb, _, hc⟩ := h
  rw [cell_of_row w p i _ t (0, 0) hb]; exact hc i hi
theorem At.frozen {w : World} {p : Nat} {K : Nat → Value} (h : At w p K) (i : Nat) : w.frozen? ⟨p, i, none⟩ = false := by
  obtain ⟨arr, t, hb, _, hc⟩ := h
  exact frozen_of_row w p i _ t hb
theorem At.of_heap {w w' : World} {p : Nat} {K : Nat → Value} (h : At w p K) (e : w'.heap[p]? = w.heap[p]?) : At w' p K := by
  obtain ⟨arr, t, hb, r⟩ := h
  exact ⟨arr, t, e.trans hb, r⟩
theorem At.only {S : Nat → Prop} {w w' : World} {p : Nat} {K : Nat → Value} (h : At w p K) (ho : Only S w w') (hs : ¬ S p) : At w' p K := h.of_heap (ho.block p h.lt hs)
theorem At.bl {w w' : World} {p : Nat} {K : Nat → Value} (h : At w p K) (hb : Bl w w') : At w' p K := h.of_heap (hb.heap h.lt)
theorem At.set {w : World} {p : Nat} {K : Nat → Value} (h : At w p K) (i : Nat) (u : Value) : At (w.setCell ⟨p, i, none⟩ u) p (upd K i u) := by
  obtain ⟨arr, t, hb, ht, hc⟩ := h
  refine ⟨_, t, Go.heap_setCell_same w p i _ t u hb, ht, fun j hj => ?_⟩
  unfold upd
  rw [Array.getElem?_setIfInBounds]
  have hsz := (Array.getElem?_eq_some_iff.1 (hc j hj)).1
  by_cases e : i = j
  · subst e; simp [hsz]
  · rw [if_neg e, if_neg (Ne.symm e)]; exact hc j hj
theorem At.ne_own {w : World} {p : Nat} {K : Nat → Value} (h : At w p K) {base : Nat} {e : TypeId} {size : Nat} {v : Value} {n : Nat} {xs : List Value} (ho : w.ownsRow base e size v n xs) (he : e ≠ 122 ∧ e ≠ 124) : v.ownBlock ≠ some p := by
  obtain ⟨arr, t, hb, ht, _⟩ := h
  refine own_ne_block ho hb ?_
  rcases ht with rfl | rfl
  · exact he.1
  · exact he.2

/-- The answer to a call of an old epoch. -/
def reply (wh ep mk kd cl ca : Int) (v : Value) : Value := .agg #[.int .i64 wh, .int .i64 ep, .int .i64 mk, .int .i64 kd, .int .i64 cl, .int .i64 ca, v]

set_option maxRecDepth 100000 in
set_option maxHeartbeats 400000 in
theorem sealed_any (p : Nat) (K : Nat → Value) (ep : Int) (w : World) (h : At w p K) (he : K 5 = .int .i64 ep) :
    Calls Tryz.prog 95 #[.pointer (some ⟨p, 0, none⟩)] w fun e w' => e = .returned (reply 5 ep 0 0 0 0 (.slice none 0 0)) ∧ Bl w w' := by
  have hp := h.lt
  have c5 := h.cell 5 (by decide)
  rw [he] at c5
  clear h he
  go_enter Tryz.func95, Tryz.ntmps95
  go_wp2
  exact bodyPost_ret (v := reply 5 ep 0 0 0 0 (.slice none 0 0)) (by simp [results, Tryz.results95, go_sem, reply]) rfl ⟨rfl, (Bl.refl _).alloc _⟩

/-- What a record that is kept leaves: the image has grown. -/
structure Keeps (base : Nat) (w w' : World) (p : Nat) (K : Nat → Value) (v v' : Value) (n : Nat) (xs : List Value) : Prop where
  at' : At w' p (upd K 71 v')
  own : w'.ownsRow base 5 1 v' n xs
  only : Only (fun b => b = p ∨ v.ownBlock = some b) w w'
  lies : ∀ b, v'.ownBlock = some b → v.ownBlock = some b ∨ w.heap.size ≤ b

theorem Keeps.of {base : Nat} {w W w' : World} {p : Nat} {K : Nat → Value} {v v' : Value} {n : Nat} {xs : List Value} (hb : Bl w W) (h : At w' p K) (hG : Grew base 5 W w' v v' n xs) : Keeps base w (w'.setCell ⟨p, 71, none⟩ v') p K v v' n xs where
  at' := h.set 71 v'
  own := ((Only.refl (fun b => b = p) w').setCell ⟨p, 71, none⟩ (.inl rfl) v').owns hG.own fun b e e' => h.ne_own hG.own (by decide) (by rw [e, e'])
  only := ((Only.of_bl hb).trans (hG.only.mono fun b _ e => .inr e)).setCell ⟨p, 71, none⟩ (.inl (.inl rfl)) v'
  lies := fun b e => (hG.lies b e).imp id fun h => Nat.le_trans hb.lt h

/-- A record is kept behind those of an image that lies in cell o of block p. -/
structure Kept (base : Nat) (w w' : World) (p o : Nat) (v v' : Value) (n : Nat) (xs : List Value) : Prop where
  ex : ∃ W w1, Bl w W ∧ Grew base 5 W w1 v v' n xs ∧ w' = w1.setCell ⟨p, o, none⟩ v'

set_option maxRecDepth 100000 in
set_option maxHeartbeats 1000000 in
theorem keep_raw (base p o : Nat) (arr : Array Value) (t : TypeId) (v : Value) (k : Nat) (xs : List Value) (kd : Int) (nv vv : Value) (ns val : List Int) (w : World) (h : w.heap[p]? = some (.cells arr t (0, 0))) (hi : arr[o]? = some v) (ht : 5 ≠ t) (hv : w.ownsRow base 5 1 v k xs) (hb : base ≤ w.heap.size) (hk : k ≤ 30000000)
    (hns : Bs w nv (ns.map (Value.int .i64))) (hval : Bs w vv (val.map B8)) (h0 : 0 ≤ kd) (h1 : kd ≤ 255) (hnl : ns.length ≤ 255) (hvl : val.length ≤ 255) (hd1 : ∀ b, v.ownBlock = some b → nv.ownBlock ≠ some b) (hd2 : ∀ b, v.ownBlock = some b → vv.ownBlock ≠ some b)
    (hl1 : ∀ b, nv.ownBlock = some b → b < w.heap.size) (hl2 : ∀ b, vv.ownBlock = some b → b < w.heap.size) :
    Calls Tryz.prog 113 #[.pointer (some ⟨p, o, none⟩), .agg #[.int .i64 kd, nv, vv]] w fun e w' => ∃ v', e = .returned (.tuple #[]) ∧ Kept base w w' p o v v' (k + (recB kd ns val).length) (xs ++ (recB kd ns val).map B8) := by
  have hp : p < w.heap.size := (Array.getElem?_eq_some_iff.1 h).1
  have c71 : w.cell? ⟨p, o, none⟩ = some v := by rw [cell_of_row w p o _ t (0, 0) h]; exact hi
  have f71 : w.frozen? ⟨p, o, none⟩ = false := frozen_of_row w p o _ t h
  have H := hid h
  obtain ⟨na, nc, en⟩ := hns.len
  obtain ⟨va, vc, ev⟩ := hval.len
  simp only [List.length_map] at en ev
  subst en ev
  obtain ⟨ia, ic, ei⟩ : ∃ a c, v = .slice a k c := by
    obtain ⟨a', c', e'⟩ := (ownsRow_sl hv).len
    rw [ownsRow_len hv] at e'
    exact ⟨a', c', e'⟩
  have Hi := hid hi
  clear hi
  subst ei
  have hne := hid (own_ne_block hv h ht)
  have HB : Hid (∀ W w' v' n' xs', Bl (w.alloc (.cells #[.int .i64 kd, .slice na ns.length nc, .slice va val.length vc] 170)) W → Grew base 5 W w' (.slice ia k ic) v' n' xs' → w'.cell? ⟨p, o, none⟩ = some (.slice ia k ic) ∧ w'.frozen? ⟨p, o, none⟩ = false) := by
    intro W w' v' n' xs' hW hG
    have hW' := ((Bl.refl w).alloc (.cells #[.int .i64 kd, .slice na ns.length nc, .slice va val.length vc] 170)).trans hW
    have hb1 := (hG.only.block p (Nat.lt_of_lt_of_le hp hW'.lt) hne.out).trans ((hW'.heap hp).trans h)
    exact ⟨by rw [cell_of_row w' p o _ t (0, 0) hb1]; exact Hi.out, frozen_of_row w' p o _ t hb1⟩
  clear h
  have lA : (w.alloc (.cells #[.int .i64 kd, .slice na ns.length nc, .slice va val.length vc] 170)).heap.size = w.heap.size + 1 := by simp
  have Hr : Hid (∀ W, Bl (w.alloc (.cells #[.int .i64 kd, .slice na ns.length nc, .slice va val.length vc] 170)) W → _) := fun W hW => recAppend_any base (.slice ia k ic) k xs kd (.slice na ns.length nc) (.slice va val.length vc) ns val W ((Only.of_bl (S := fun _ => False) hW).owns (hv.alloc _) fun _ _ e => e) (by have := hW.lt; omega) hk (hns.bl (((Bl.refl _).alloc _).trans hW)) (hval.bl (((Bl.refl _).alloc _).trans hW)) h0 h1 hnl hvl hd1 hd2 (fun b e => by have := hl1 b e; have := hW.lt; omega) (fun b e => by have := hl2 b e; have := hW.lt; omega)
  have Hv := hid hv
  clear hv hns hval hd1 hd2 hl1 hl2
  go_enter Tryz.func113, Tryz.ntmps113
  go_wp2
  go_region_with (go_at_call 112; refine (Hr.out _ (by exact (Bl.refl _).drewN _)).mono ?_; rintro e w' ⟨v', rfl, hG⟩; obtain ⟨a', c', e'⟩ := hG.shape; subst e'; obtain ⟨c1, f1⟩ := HB.out _ _ _ _ _ (by exact (Bl.refl _).drewN _) hG; have HG := hid hG; clear hG)
  all_goals
    go_end0
    exact ⟨_, rfl, ⟨_, _, ((Bl.refl w).alloc _).drew, HG.out, rfl⟩⟩

theorem keep_any (base p : Nat) (K : Nat → Value) (v : Value) (k : Nat) (xs : List Value) (kd : Int) (nv vv : Value) (ns val : List Int) (w : World) (h : At w p K) (hi : K 71 = v) (hv : w.ownsRow base 5 1 v k xs) (hb : base ≤ w.heap.size) (hk : k ≤ 30000000)
    (hns : Bs w nv (ns.map (Value.int .i64))) (hval : Bs w vv (val.map B8)) (h0 : 0 ≤ kd) (h1 : kd ≤ 255) (hnl : ns.length ≤ 255) (hvl : val.length ≤ 255) (hd1 : ∀ b, v.ownBlock = some b → nv.ownBlock ≠ some b) (hd2 : ∀ b, v.ownBlock = some b → vv.ownBlock ≠ some b)
    (hl1 : ∀ b, nv.ownBlock = some b → b < w.heap.size) (hl2 : ∀ b, vv.ownBlock = some b → b < w.heap.size) :
    Calls Tryz.prog 113 #[.pointer (some ⟨p, 71, none⟩), .agg #[.int .i64 kd, nv, vv]] w fun e w' => ∃ v', e = .returned (.tuple #[]) ∧ Keeps base w w' p K v v' (k + (recB kd ns val).length) (xs ++ (recB kd ns val).map B8) := by
  obtain ⟨arr, t, hh, ht, hc⟩ := id h
  refine (keep_raw base p 71 arr t v k xs kd nv vv ns val w hh (by rw [hc 71 (by decide), hi]) (by rcases ht with rfl | rfl <;> decide) hv hb hk hns hval h0 h1 hnl hvl hd1 hd2 hl1 hl2).mono ?_
  rintro e w' ⟨v', rfl, ⟨W, w1, hW, hG, rfl⟩⟩
  exact ⟨v', rfl, Keeps.of hW ((h.bl hW).only hG.only (h.ne_own hv (by decide))) hG⟩
end Go.Proofs.YtkgjpfamjedncaaGreat

namespace Go.Proofs.YtkgjpfamjedncaaGreat
open Go.RowKit
attribute [local go_sem ↓] Go.wp_at_zero Go.wp_at_succ

structure Ct where
  kd : Int
  cl : Int
  ca : Int
  val : List Int

/-- The cells of a unit: settings, chain, epoch, mark, contents, image. -/
structure Ks (base : Nat) (w : World) (p : Nat) (a b c d ch ep mk : Int) (ct : Nat → Ct) (img : List Int) (K : Nat → Value) : Prop where
  at' : At w p K
  k0 : K 0 = .int .i64 a
  k1 : K 1 = .int .i64 b
  k2 : K 2 = .int .i64 c
  k3 : K 3 = .int .i64 d
  k4 : K 4 = .int .i64 ch
  k5 : K 5 = .int .i64 ep
  k6 : K 6 = .int .i64 mk
  own : w.ownsRow base 5 1 (K 71) img.length (img.map B8)
  kd : ∀ i, i < 16 → K (7 + 4 * i) = .int .i64 (ct i).kd
  cl : ∀ i, i < 16 → K (8 + 4 * i) = .int .i64 (ct i).cl
  ca : ∀ i, i < 16 → K (9 + 4 * i) = .int .i64 (ct i).ca
  val : ∀ i, i < 16 → w.ownsRow base 5 1 (K (10 + 4 * i)) (ct i).val.length ((ct i).val.map B8)
  apart : ∀ i, i < 16 → ∀ g, (K (10 + 4 * i)).ownBlock = some g → (K 71).ownBlock ≠ some g

/-- The blocks of bytes that a unit has. -/
def KF (K : Nat → Value) (g : Nat) : Prop := (K 71).ownBlock = some g ∨ ∃ i, i < 16 ∧ (K (10 + 4 * i)).ownBlock = some g
/-- A call of a unit: what turns is its own, and what it has behind it was its own or is new. -/
structure Gk (p : Nat) (K K' : Nat → Value) (w w' : World) : Prop where
  only : Only (fun b => b = p ∨ (K 71).ownBlock = some b) w w'
  lies : ∀ g, KF K' g → KF K g ∨ w.heap.size ≤ g
theorem Gk.refl (p : Nat) (K : Nat → Value) (w : World) : Gk p K K w w := ⟨Only.refl _ _, fun _ h => .inl h⟩
theorem Gk.of_bl {p : Nat} {K : Nat → Value} {w w' : World} (h : Bl w w') : Gk p K K w w' := ⟨Only.of_bl h, fun _ h => .inl h⟩
theorem Gk.pre {p : Nat} {K K' : Nat → Value} {w W w' : World} (h : Gk p K K' W w') (hb : Bl w W) : Gk p K K' w w' := ⟨(Only.of_bl hb).trans h.only, fun g hg => (h.lies g hg).imp id (Nat.le_trans hb.lt)⟩
theorem Gk.post {p : Nat} {K K' : Nat → Value} {w w1 w' : World} (h : Gk p K K' w w1) (hb : Bl w1 w') : Gk p K K' w w' := ⟨h.only.trans (Only.of_bl hb), h.lies⟩
theorem Gk.new {p : Nat} {K K' : Nat → Value} {w w1 w' : World} {T : Nat → Prop} (h : Gk p K K' w w1) (k : Only T w1 w') (hs : ∀ n, T n → w.heap.size ≤ n) : Gk p K K' w w' :=
  ⟨⟨k.os.trans h.only.os, k.tape.trans h.only.tape, k.output.trans h.only.output, Nat.le_trans h.only.size k.size, fun i hi hn => by rw [k.block i (Nat.lt_of_lt_of_le hi h.only.size) (fun e => by have := hs i e; omega), h.only.block i hi hn]⟩, h.lies⟩

theorem Ks.foot {base : Nat} {w : World} {p : Nat} {a b c d ch ep mk : Int} {ct : Nat → Ct} {img : List Int} {K : Nat → Value} (h : Ks base w p a b c d ch ep mk ct img K) {g : Nat} (hg : KF K g) : base ≤ g ∧ g < w.heap.size := by
  rcases hg with hg | ⟨i, hi, hg⟩
  · exact h.own.lt g hg
  · exact (h.val i hi).lt g hg

/-- Another epoch and mark, and a record more. -/
theorem Ks.keep {base : Nat} {w W w' : World} {p : Nat} {a b c d ch ep mk ep' mk' : Int} {ct : Nat → Ct} {img rec : List Int} {K K' : Nat → Value} {v' : Value} {n : Nat} {xs : List Value} (h : Ks base w p a b c d ch ep mk ct img K) (hW : Only (fun b => b = p) w W)
    (h5 : K' 5 = .int .i64 ep') (h6 : K' 6 = .int .i64 mk') (ho : ∀ j, j ≠ 5 → j ≠ 6 → K' j = K j) (hk : Keeps base W w' p K' (K 71) v' n xs) (hn : n = img.length + rec.length) (hx : xs = img.map B8 ++ rec.map B8) :
    Ks base w' p a b c d ch ep' mk' ct (img ++ rec) (upd K' 71 v') ∧ Gk p K (upd K' 71 v') w w' := by
  have O := (hW.mono (T := fun b => b = p ∨ (K 71).ownBlock = some b) fun b _ e => .inl e).trans hk.only
  have e0 : ∀ j, j ≠ 71 → j ≠ 5 → j ≠ 6 → upd K' 71 v' j = K j := fun j h1 h2 h3 => by rw [upd_other _ _ _ _ h1, ho j h2 h3]
  have q : ∀ i, i < 16 → upd K' 71 v' (10 + 4 * i) = K (10 + 4 * i) := fun i hi => e0 _ (by omega) (by omega) (by omega)
  refine ⟨⟨hk.at', by rw [e0 0 (by decide) (by decide) (by decide)]; exact h.k0, by rw [e0 1 (by decide) (by decide) (by decide)]; exact h.k1, by rw [e0 2 (by decide) (by decide) (by decide)]; exact h.k2, by rw [e0 3 (by decide) (by decide) (by decide)]; exact h.k3, by rw [e0 4 (by decide) (by decide) (by decide)]; exact h.k4, by rw [upd_other _ _ _ _ (by decide)]; exact h5, by rw [upd_other _ _ _ _ (by decide)]; exact h6, ?_, fun i hi => by rw [e0 _ (by omega) (by omega) (by omega)]; exact h.kd i hi, fun i hi => by rw [e0 _ (by omega) (by omega) (by omega)]; exact h.cl i hi, fun i hi => by rw [e0 _ (by omega) (by omega) (by omega)]; exact h.ca i hi, fun i hi => ?_, fun i hi g hg => ?_⟩, O, fun g hg => ?_⟩
  · rw [upd_same, List.length_append, List.map_append, ← hx, ← hn]; exact hk.own
  · rw [q i hi]
    refine O.owns (h.val i hi) fun g hg e => ?_
    rcases e with e | e
    · exact h.at'.ne_own (h.val i hi) (by decide) (by rw [hg, e])
    · exact h.apart i hi g hg e
  · rw [q i hi] at hg
    rw [upd_same]
    intro e
    rcases hk.lies g e with e | e
    · exact h.apart i hi g hg e
    · have := hW.size; have := ((h.val i hi).lt g hg).2; omega
  · rcases hg with hg | ⟨i, hi, hg⟩
    · rw [upd_same] at hg
      rcases hk.lies g hg with e | e
      · exact .inl (.inl e)
      · exact .inr (Nat.le_trans hW.size e)
    · rw [q i hi] at hg
      exact .inl (.inr ⟨i, hi, hg⟩)

set_option maxRecDepth 100000 in
set_option maxHeartbeats 1000000 in
theorem reach_any (base p : Nat) (a b c d ch ep mk : Int) (ct : Nat → Ct) (img : List Int) (K : Nat → Value) (ep' : Int) (w : World) (h : Ks base w p a b c d ch ep mk ct img K) (hb : base ≤ w.heap.size) (hl : img.length ≤ 30000000) :
    Calls Tryz.prog 96 #[.pointer (some ⟨p, 0, none⟩), .int .i64 ep'] w fun e w' => ∃ K', e = .returned (.tuple #[]) ∧ Ks base w' p a b c d ch ep' mk ct (img ++ if ep' = ep then [] else recB 1 [ep'] []) K' ∧ Gk p K K' w w' ∧ (ep' = ep → K' = K ∧ Bl w w') := by
  have H := hid h
  have hp := h.at'.lt
  have c5 := h.at'.cell 5 (by decide)
  have f5 := h.at'.frozen 5
  rw [h.k5] at c5
  by_cases he : ep' = ep
  · subst he
    rw [if_pos rfl, List.append_nil]
    clear h
    go_enter Tryz.func96, Tryz.ntmps96
    go_wp2
    exact bodyPost_ret (v := .tuple #[]) (results_none rfl _ _ _) rfl ⟨K, rfl, H.out, Gk.refl _ _ _, fun _ => ⟨rfl, Bl.refl _⟩⟩
  · rw [if_neg he]
    have Hne := hid he
    have hz : (ep' == ep) = false := by simpa using he
    clear h he
    go_enter Tryz.func96, Tryz.ntmps96
    go_wp2_with fail
    have oW : Only (fun b => b = p) w ((w.setCell ⟨p, 5, none⟩ (.int .i64 ep')).alloc (.cells #[.int .i64 ep'] 3)) := ((Only.refl (fun b => b = p) w).setCell ⟨p, 5, none⟩ (.inl rfl) (.int .i64 ep')).alloc _
    have hA := (H.out.at'.set 5 (.int .i64 ep')).bl ((Bl.refl _).alloc (.cells #[.int .i64 ep'] 3))
    have hO := oW.owns H.out.own fun g e e' => H.out.at'.ne_own H.out.own (by decide) (by rw [e, e'])
    have hN : Bs ((w.setCell ⟨p, 5, none⟩ (.int .i64 ep')).alloc (.cells #[.int .i64 ep'] 3)) (.slice (some ⟨w.heap.size, 0, none⟩) 1 1) ([ep'].map (Value.int .i64)) := by
      have := bs_new (w.setCell ⟨p, 5, none⟩ (.int .i64 ep')) 3 #[.int .i64 ep'] 1 rfl
      simpa using this
    have lW : ((w.setCell ⟨p, 5, none⟩ (.int .i64 ep')).alloc (.cells #[.int .i64 ep'] 3)).heap.size = w.heap.size + 1 := by simp
    refine (keep_any base p (upd K 5 (.int .i64 ep')) (K 71) img.length (img.map B8) 1 _ _ [ep'] [] _ hA (upd_other _ _ _ _ (by decide)) hO (by omega) hl hN (.inl ⟨rfl, rfl⟩) (by decide) (by decide) (by simp) (by simp) (fun g e e' => ?_) (fun g e e' => by simp [Value.ownBlock] at e') (fun g e => by simp [Value.ownBlock] at e; omega) (fun g e => by simp [Value.ownBlock] at e)).mono ?_
    · simp [Value.ownBlock] at e'
      have := (H.out.own.lt g e).2
      omega
    rintro e w' ⟨v', rfl, hk⟩
    have R := hid (H.out.keep (ep' := ep') (mk' := mk) oW (upd_same _ _ _) ((upd_other _ _ _ _ (by decide)).trans H.out.k6) (fun j h1 _ => upd_other _ _ _ _ h1) hk rfl rfl)
    clear oW hA hO hN lW hk
    go_wp2
    go_end0
    exact ⟨_, rfl, R.out.1, R.out.2, fun e => absurd e Hne.out⟩

set_option maxRecDepth 100000 in
set_option maxHeartbeats 1000000 in
theorem lay_any (base p : Nat) (a b c d ch ep mk : Int) (ct : Nat → Ct) (img : List Int) (K : Nat → Value) (ep' mk' : Int) (w : World) (h : Ks base w p a b c d ch ep mk ct img K) (hb : base ≤ w.heap.size) (hl : img.length ≤ 30000000) :
    Calls Tryz.prog 100 #[.pointer (some ⟨p, 0, none⟩), .int .i64 ep', .int .i64 mk'] w fun e w' => ∃ K', e = .returned (.tuple #[]) ∧ Ks base w' p a b c d ch ep' mk' ct (img ++ recB 2 [ep', mk'] []) K' ∧ Gk p K K' w w' := by
  have H := hid h
  have hp := h.at'.lt
  have c5 := h.at'.cell 5 (by decide)
  have f5 := h.at'.frozen 5
  rw [h.k5] at c5
  have c6 := h.at'.cell 6 (by decide)
  have f6 := h.at'.frozen 6
  rw [h.k6] at c6
  clear h
  go_enter Tryz.func100, Tryz.ntmps100
  go_wp2_with fail
  have oW : Only (fun b => b = p) w (((w.setCell ⟨p, 5, none⟩ (.int .i64 ep')).setCell ⟨p, 6, none⟩ (.int .i64 mk')).alloc (.cells #[.int .i64 ep', .int .i64 mk'] 3)) := (((Only.refl (fun b => b = p) w).setCell ⟨p, 5, none⟩ (.inl rfl) (.int .i64 ep')).setCell ⟨p, 6, none⟩ (.inl rfl) (.int .i64 mk')).alloc _
  have hA := ((H.out.at'.set 5 (.int .i64 ep')).set 6 (.int .i64 mk')).bl ((Bl.refl _).alloc (.cells #[.int .i64 ep', .int .i64 mk'] 3))
  have hO := oW.owns H.out.own fun g e e' => H.out.at'.ne_own H.out.own (by decide) (by rw [e, e'])
  have hN : Bs (((w.setCell ⟨p, 5, none⟩ (.int .i64 ep')).setCell ⟨p, 6, none⟩ (.int .i64 mk')).alloc (.cells #[.int .i64 ep', .int .i64 mk'] 3)) (.slice (some ⟨w.heap.size, 0, none⟩) 2 2) ([ep', mk'].map (Value.int .i64)) := by
    have := bs_new ((w.setCell ⟨p, 5, none⟩ (.int .i64 ep')).setCell ⟨p, 6, none⟩ (.int .i64 mk')) 3 #[.int .i64 ep', .int .i64 mk'] 2 rfl
    simpa using this
  have lW : (((w.setCell ⟨p, 5, none⟩ (.int .i64 ep')).setCell ⟨p, 6, none⟩ (.int .i64 mk')).alloc (.cells #[.int .i64 ep', .int .i64 mk'] 3)).heap.size = w.heap.size + 1 := by simp
  refine (keep_any base p (upd (upd K 5 (.int .i64 ep')) 6 (.int .i64 mk')) (K 71) img.length (img.map B8) 2 _ _ [ep', mk'] [] _ hA ((upd_other _ _ _ _ (by decide)).trans (upd_other _ _ _ _ (by decide))) hO (by omega) hl hN (.inl ⟨rfl, rfl⟩) (by decide) (by decide) (by simp) (by simp) (fun g e e' => ?_) (fun g e e' => by simp [Value.ownBlock] at e') (fun g e => by simp [Value.ownBlock] at e; omega) (fun g e => by simp [Value.ownBlock] at e)).mono ?_
  · simp [Value.ownBlock] at e'
    have := (H.out.own.lt g e).2
    omega
  rintro e w' ⟨v', rfl, hk⟩
  have R := hid (H.out.keep (ep' := ep') (mk' := mk') oW ((upd_other _ _ _ _ (by decide)).trans (upd_same _ _ _)) (upd_same _ _ _) (fun j h1 h2 => (upd_other _ _ _ _ h2).trans (upd_other _ _ _ _ h1)) hk rfl rfl)
  clear oW hA hO hN lW hk
  go_wp2
  go_end0
  exact ⟨_, rfl, R.out.1, R.out.2⟩
end Go.Proofs.YtkgjpfamjedncaaGreat
