-- What the calls of package furrow on cells do.
import Derived.Test.YtbghhbpacijmmaaWrap
namespace Go.Proofs.Ytbghhbpacijmmaa
open Go.RowKit

theorem Ks.ne {base : Nat} {w : World} {p : Nat} {a b c d ch ep mk : Int} {ct : Nat → Ct} {img : List Int} {K : Nat → Value} (h : Ks base w p a b c d ch ep mk ct img K) {g : Nat} (hg : w.heap.size ≤ g) : ¬ (g = p ∨ (K 71).ownBlock = some g) := by
  have := h.at'.lt
  rintro (e | e)
  · omega
  · have := (h.own.lt _ e).2; omega

theorem owned_slice {w : World} {B n : Nat} {v : Value} {xs : List Value} (h : w.ownsRow B 5 1 v n xs) : ∃ a c, v = .slice a n c := by
  obtain ⟨a', c', e'⟩ := (ownsRow_sl h).len
  rw [ownsRow_len h] at e'
  exact ⟨a', c', e'⟩

abbrev nilS : Value := .slice none 0 0

theorem fread_old (base p : Nat) (a b c d ch ep mk : Int) (ct : Nat → Ct) (img : List Int) (K : Nat → Value) (ep' x : Int) (w : World) (h : Ks base w p a b c d ch ep mk ct img K) (he : ep' < ep) :
    Calls Try.prog 9 #[.pointer (some ⟨p, 0, none⟩), .int .i64 ep', .int .i64 x] w fun e w' => e = .returned (reply 5 ep 0 0 0 0 nilS) ∧ Ks base w' p a b c d ch ep mk ct img K ∧ Bl w w' := by
  have bA := (Bl.refl w).alloc (.cells blank 34)
  refine (wrap_read p ep' x w (fun wh ep1 mk1 kd cl ca v w1 => wh = 5 ∧ ep1 = ep ∧ mk1 = 0 ∧ kd = 0 ∧ cl = 0 ∧ ca = 0 ∧ v = nilS ∧ Ks base w1 p a b c d ch ep mk ct img K ∧ Bl w w1) ?_).mono ?_
  · refine (readOld_any base p a b c d ch ep mk ct img K ep' x _ (h.bl bA) he).mono ?_
    rintro e w1 ⟨rfl, hk, hb⟩
    exact ⟨_, _, _, _, _, _, _, _, _, rfl, ⟨rfl, rfl, rfl, rfl, rfl, rfl, rfl, hk, bA.trans hb⟩, (hb.heap (by simp)).trans (heap_alloc_new w _)⟩
  · rintro e w' ⟨_, _, _, _, _, _, _, w1, rfl, ⟨rfl, rfl, rfl, rfl, rfl, rfl, rfl, hk, hb⟩, hN, hO⟩
    have := h.at'.lt
    exact ⟨rfl, hk.other hO hN (by omega), hb.trans_only hO (fun n e => by omega)⟩

theorem ftrim_old (base p : Nat) (a b c d ch ep mk : Int) (ct : Nat → Ct) (img : List Int) (K : Nat → Value) (ep' x : Int) (w : World) (h : Ks base w p a b c d ch ep mk ct img K) (he : ep' < ep) :
    Calls Try.prog 14 #[.pointer (some ⟨p, 0, none⟩), .int .i64 ep', .int .i64 x] w fun e w' => e = .returned (reply 5 ep 0 0 0 0 nilS) ∧ Ks base w' p a b c d ch ep mk ct img K ∧ Bl w w' := by
  have bA := (Bl.refl w).alloc (.cells blank 34)
  refine (wrap_trim p ep' x w (fun wh ep1 mk1 kd cl ca v w1 => wh = 5 ∧ ep1 = ep ∧ mk1 = 0 ∧ kd = 0 ∧ cl = 0 ∧ ca = 0 ∧ v = nilS ∧ Ks base w1 p a b c d ch ep mk ct img K ∧ Bl w w1) ?_).mono ?_
  · refine (trimOld_any base p a b c d ch ep mk ct img K ep' x _ (h.bl bA) he).mono ?_
    rintro e w1 ⟨rfl, hk, hb⟩
    exact ⟨_, _, _, _, _, _, _, _, _, rfl, ⟨rfl, rfl, rfl, rfl, rfl, rfl, rfl, hk, bA.trans hb⟩, (hb.heap (by simp)).trans (heap_alloc_new w _)⟩
  · rintro e w' ⟨_, _, _, _, _, _, _, w1, rfl, ⟨rfl, rfl, rfl, rfl, rfl, rfl, rfl, hk, hb⟩, hN, hO⟩
    have := h.at'.lt
    exact ⟨rfl, hk.other hO hN (by omega), hb.trans_only hO (fun n e => by omega)⟩

theorem fwrite_old (base p : Nat) (a b c d ch ep mk : Int) (ct : Nat → Ct) (img : List Int) (K : Nat → Value) (ep' x kd cl ca : Int) (va : Option Addr) (vn vc : Nat) (w : World) (h : Ks base w p a b c d ch ep mk ct img K) (he : ep' < ep) :
    Calls Try.prog 10 #[.pointer (some ⟨p, 0, none⟩), .int .i64 ep', .int .i64 x, .agg #[.int .i64 kd, .int .i64 cl, .int .i64 ca, .slice va vn vc]] w fun e w' => e = .returned (reply 5 ep 0 0 0 0 nilS) ∧ Ks base w' p a b c d ch ep mk ct img K ∧ Bl w w' := by
  refine (wrap_write p ep' x kd cl ca va vn vc w (fun wh ep1 mk1 kd cl ca v w1 => wh = 5 ∧ ep1 = ep ∧ mk1 = 0 ∧ kd = 0 ∧ cl = 0 ∧ ca = 0 ∧ v = nilS ∧ Ks base w1 p a b c d ch ep mk ct img K ∧ Bl w w1) ?_).mono ?_
  · intro W hW hs hN
    refine (writeOld_any base p a b c d ch ep mk ct img K ep' x kd cl ca va vn vc W (h.bl hW) he).mono ?_
    rintro e w1 ⟨rfl, hk, hb⟩
    exact ⟨_, _, _, _, _, _, _, _, _, rfl, ⟨rfl, rfl, rfl, rfl, rfl, rfl, rfl, hk, hW.trans hb⟩, (hb.heap (by omega)).trans hN⟩
  · rintro e w' ⟨_, _, _, _, _, _, _, w1, rfl, ⟨rfl, rfl, rfl, rfl, rfl, rfl, rfl, hk, hb⟩, hN, hO⟩
    have := h.at'.lt
    exact ⟨rfl, hk.other hO hN (by omega), hb.trans_only hO (fun n e => by omega)⟩

theorem fread_new (base p : Nat) (a b c d ch ep mk : Int) (ct : Nat → Ct) (img : List Int) (K : Nat → Value) (ep' x : Int) (w : World) (h : Ks base w p a b c d ch ep mk ct img K) (hb : base ≤ w.heap.size) (hl : img.length ≤ 3000000) (hct : ∀ i, i < 16 → (ct i).val.length ≤ 255) (he : ¬ ep' < ep) (wh m : Int) (t : Ct) (hlook : lookC a b c d ch mk ct x = (wh, m, t)) :
    Calls Try.prog 9 #[.pointer (some ⟨p, 0, none⟩), .int .i64 ep', .int .i64 x] w fun e w' => ∃ K' v', e = .returned (reply wh 0 m t.kd t.cl t.ca v') ∧ w'.ownsRow w.heap.size 5 1 v' t.val.length (t.val.map B8) ∧ Ks base w' p a b c d ch ep' mk ct (img ++ if ep' = ep then [] else recB 1 [ep'] []) K' ∧ Only (fun b => b = p ∨ (K 71).ownBlock = some b) w w' ∧ (ep' = ep → K' = K ∧ Bl w w') := by
  have bA := (Bl.refl w).alloc (.cells blank 34)
  refine (wrap_read p ep' x w (fun wh1 ep1 mk1 kd cl ca v w1 => wh1 = wh ∧ ep1 = 0 ∧ mk1 = m ∧ kd = t.kd ∧ cl = t.cl ∧ ca = t.ca ∧ w1.ownsRow w.heap.size 5 1 v t.val.length (t.val.map B8) ∧ ∃ K', Ks base w1 p a b c d ch ep' mk ct (img ++ if ep' = ep then [] else recB 1 [ep'] []) K' ∧ Only (fun b => b = p ∨ (K 71).ownBlock = some b) w w1 ∧ (ep' = ep → K' = K ∧ Bl w w1)) ?_).mono ?_
  · refine (readNew_any base p a b c d ch ep mk ct img K ep' x _ (h.bl bA) (Nat.le_trans hb bA.lt) hl hct he wh m t hlook).mono ?_
    rintro e w1 ⟨K', v', rfl, hv, hk, ho, hs⟩
    obtain ⟨sa, sc, rfl⟩ := owned_slice hv
    exact ⟨_, _, _, _, _, _, _, _, _, rfl, ⟨rfl, rfl, rfl, rfl, rfl, rfl, ownsRow_base hv fun g e => Nat.le_trans bA.lt (hv.lt g e).1, K', hk, (Only.of_bl bA).trans ho, fun e => ⟨(hs e).1, bA.trans (hs e).2⟩⟩, (ho.block _ (by simp) (h.ne (Nat.le_refl _))).trans (heap_alloc_new w _)⟩
  · rintro e w' ⟨_, _, _, _, _, _, v, w1, rfl, ⟨rfl, rfl, rfl, rfl, rfl, rfl, hv, K', hk, ho, hs⟩, hN, hO⟩
    have := h.at'.lt
    exact ⟨K', v, rfl, hO.owns hv fun g e e' => own_ne_block hv hN (by decide) (by rw [e, e']), hk.other hO hN (by omega), ho.trans_new hO (fun g e => Nat.le_of_eq e.symm), fun e => ⟨(hs e).1, (hs e).2.trans_only hO (fun n e => by omega)⟩⟩

theorem fwrite_told (base p : Nat) (a b c d ch ep mk : Int) (ct : Nat → Ct) (img : List Int) (K : Nat → Value) (ep' x kd cl ca : Int) (va : Option Addr) (vn vc : Nat) (w : World) (h : Ks base w p a b c d ch ep mk ct img K) (hb : base ≤ w.heap.size) (hl : img.length ≤ 3000000) (hct : ∀ i, i < 16 → (ct i).val.length ≤ 255) (hvn : vn ≤ 255)
    (he : ¬ ep' < ep) (wh m : Int) (t : Ct) (hlook : lookC a b c d ch mk ct x = (wh, m, t)) (hwh : wh ≠ 3) (hc : isC kd vn = true) :
    Calls Try.prog 10 #[.pointer (some ⟨p, 0, none⟩), .int .i64 ep', .int .i64 x, .agg #[.int .i64 kd, .int .i64 cl, .int .i64 ca, .slice va vn vc]] w fun e w' => ∃ K' v', e = .returned (reply wh 0 m t.kd t.cl t.ca v') ∧ w'.ownsRow w.heap.size 5 1 v' t.val.length (t.val.map B8) ∧ Ks base w' p a b c d ch ep' mk ct (img ++ if ep' = ep then [] else recB 1 [ep'] []) K' ∧ Only (fun b => b = p ∨ (K 71).ownBlock = some b) w w' ∧ (ep' = ep → K' = K ∧ Bl w w') := by
  refine (wrap_write p ep' x kd cl ca va vn vc w (fun wh1 ep1 mk1 kd cl ca v w1 => wh1 = wh ∧ ep1 = 0 ∧ mk1 = m ∧ kd = t.kd ∧ cl = t.cl ∧ ca = t.ca ∧ w1.ownsRow w.heap.size 5 1 v t.val.length (t.val.map B8) ∧ ∃ K', Ks base w1 p a b c d ch ep' mk ct (img ++ if ep' = ep then [] else recB 1 [ep'] []) K' ∧ Only (fun b => b = p ∨ (K 71).ownBlock = some b) w w1 ∧ (ep' = ep → K' = K ∧ Bl w w1)) ?_).mono ?_
  · intro W hW hsz hN
    refine (writeTold_any base p a b c d ch ep mk ct img K ep' x kd cl ca va vn vc W (h.bl hW) (Nat.le_trans hb hW.lt) hl hct hvn he wh m t hlook hwh hc).mono ?_
    rintro e w1 ⟨K', v', rfl, hv, hk, ho, hs⟩
    obtain ⟨sa, sc, rfl⟩ := owned_slice hv
    exact ⟨_, _, _, _, _, _, _, _, _, rfl, ⟨rfl, rfl, rfl, rfl, rfl, rfl, ownsRow_base hv fun g e => Nat.le_trans hW.lt (hv.lt g e).1, K', hk, (Only.of_bl hW).trans ho, fun e => ⟨(hs e).1, hW.trans (hs e).2⟩⟩, (ho.block _ (by omega) (h.ne (by omega))).trans hN⟩
  · rintro e w' ⟨_, _, _, _, _, _, v, w1, rfl, ⟨rfl, rfl, rfl, rfl, rfl, rfl, hv, K', hk, ho, hs⟩, hN, hO⟩
    have := h.at'.lt
    exact ⟨K', v, rfl, hO.owns hv fun g e e' => own_ne_block hv hN (by decide) (by rw [e, e']), hk.other hO hN (by omega), ho.trans_new hO (fun g e => by omega), fun e => ⟨(hs e).1, (hs e).2.trans_only hO (fun n e => by omega)⟩⟩

theorem fwrite_empty (base p : Nat) (a b c d ch ep mk : Int) (ct : Nat → Ct) (img : List Int) (K : Nat → Value) (ep' x kd cl ca : Int) (v : Value) (ys : List Int) (i : Nat) (w : World) (h : Ks base w p a b c d ch ep mk ct img K) (hb : base ≤ w.heap.size) (hl : img.length ≤ 3000000) (hct : ∀ i, i < 16 → (ct i).val.length ≤ 255) (hv : Bs w v (ys.map B8)) (hy : ys.length ≤ 255) (hvb : ∀ g, v.ownBlock = some g → g < w.heap.size ∧ (K 71).ownBlock ≠ some g ∧ g ≠ p)
    (he : ¬ ep' < ep) (hi : i < 16) (hloc : loc a b c d x = (ch, (i : Int), 0)) (hlook : lookC a b c d ch mk ct x = (3, 0, ⟨0, 0, 0, []⟩)) (hc : isC kd ys.length = true) :
    Calls Try.prog 10 #[.pointer (some ⟨p, 0, none⟩), .int .i64 ep', .int .i64 x, .agg #[.int .i64 kd, .int .i64 cl, .int .i64 ca, v]] w fun e w' => ∃ K', e = .returned (reply 1 0 0 0 0 0 nilS) ∧ Ks base w' p a b c d ch ep' mk (fun j => if j = i then ⟨kd, cl, ca, ys⟩ else ct j) (img ++ recB 3 [ep', x, kd, cl, ca] ys) K' ∧ Only (fun b => b = p ∨ (K 71).ownBlock = some b) w w' := by
  obtain ⟨va, vc, ev⟩ := hv.len
  subst ev
  refine (wrap_write p ep' x kd cl ca va _ vc w (fun wh1 ep1 mk1 kd1 cl1 ca1 v w1 => wh1 = 1 ∧ ep1 = 0 ∧ mk1 = 0 ∧ kd1 = 0 ∧ cl1 = 0 ∧ ca1 = 0 ∧ v = nilS ∧ ∃ K', Ks base w1 p a b c d ch ep' mk (fun j => if j = i then ⟨kd, cl, ca, ys⟩ else ct j) (img ++ recB 3 [ep', x, kd, cl, ca] ys) K' ∧ Only (fun b => b = p ∨ (K 71).ownBlock = some b) w w1) ?_).mono ?_
  · intro W hW hsz hN
    refine (writeEmpty_any base p a b c d ch ep mk ct img K ep' x kd cl ca _ ys i W (h.bl hW) (Nat.le_trans hb hW.lt) hl hct (hv.bl hW) hy (fun g e => ⟨Nat.lt_of_lt_of_le (hvb g e).1 hW.lt, (hvb g e).2⟩) he hi hloc hlook hc).mono ?_
    rintro e w1 ⟨K', rfl, hk, ho⟩
    exact ⟨_, _, _, _, _, _, _, _, _, rfl, ⟨rfl, rfl, rfl, rfl, rfl, rfl, rfl, K', hk, (Only.of_bl hW).trans ho⟩, (ho.block _ (by omega) (h.ne (by omega))).trans hN⟩
  · rintro e w' ⟨_, _, _, _, _, _, v, w1, rfl, ⟨rfl, rfl, rfl, rfl, rfl, rfl, rfl, K', hk, ho⟩, hN, hO⟩
    have := h.at'.lt
    exact ⟨K', rfl, hk.other hO hN (by omega), ho.trans_new hO (fun g e => by omega)⟩

theorem fseal_new (base p : Nat) (a b c d ch ep mk : Int) (ct : Nat → Ct) (img : List Int) (K : Nat → Value) (ep' : Int) (w : World) (h : Ks base w p a b c d ch ep mk ct img K) (hb : base ≤ w.heap.size) (hl : img.length ≤ 3000000) (he : ep < ep') :
    Calls Try.prog 13 #[.pointer (some ⟨p, 0, none⟩), .int .i64 ep'] w fun e w' => ∃ K', e = .returned (reply 1 ep' 0 0 0 0 nilS) ∧ Ks base w' p a b c d ch ep' mk ct (img ++ recB 1 [ep'] []) K' ∧ Only (fun b => b = p ∨ (K 71).ownBlock = some b) w w' := by
  have bA := (Bl.refl w).alloc (.cells blank 34)
  refine (wrap_seal p ep' w (fun wh1 ep1 mk1 kd cl ca v w1 => wh1 = 1 ∧ ep1 = ep' ∧ mk1 = 0 ∧ kd = 0 ∧ cl = 0 ∧ ca = 0 ∧ v = nilS ∧ ∃ K', Ks base w1 p a b c d ch ep' mk ct (img ++ recB 1 [ep'] []) K' ∧ Only (fun b => b = p ∨ (K 71).ownBlock = some b) w w1) ?_).mono ?_
  · have hs := seal_any base p a b c d ch ep mk ct img K ep' _ (h.bl bA) (Nat.le_trans hb bA.lt) hl
    rw [if_neg (by omega), if_neg (by omega), if_neg (by omega)] at hs
    refine hs.mono ?_
    rintro e w1 ⟨K', rfl, hk, ho⟩
    exact ⟨_, _, _, _, _, _, _, _, _, rfl, ⟨rfl, rfl, rfl, rfl, rfl, rfl, rfl, K', hk, (Only.of_bl bA).trans ho⟩, (ho.block _ (by simp) (h.ne (Nat.le_refl _))).trans (heap_alloc_new w _)⟩
  · rintro e w' ⟨_, _, _, _, _, _, v, w1, rfl, ⟨rfl, rfl, rfl, rfl, rfl, rfl, rfl, K', hk, ho⟩, hN, hO⟩
    have := h.at'.lt
    exact ⟨K', rfl, hk.other hO hN (by omega), ho.trans_new hO (fun g e => Nat.le_of_eq e.symm)⟩

theorem ftrim_new (base p : Nat) (a b c d ch ep mk : Int) (ct : Nat → Ct) (img : List Int) (K : Nat → Value) (ep' mk' : Int) (w : World) (h : Ks base w p a b c d ch ep mk ct img K) (hb : base ≤ w.heap.size) (hl : img.length ≤ 3000000) (he : ¬ ep' < ep) (hm : mk < mk') :
    Calls Try.prog 14 #[.pointer (some ⟨p, 0, none⟩), .int .i64 ep', .int .i64 mk'] w fun e w' => ∃ K', e = .returned (reply 1 0 mk' 0 0 0 nilS) ∧ Ks base w' p a b c d ch ep' mk' ct (img ++ recB 2 [ep', mk'] []) K' ∧ Only (fun b => b = p ∨ (K 71).ownBlock = some b) w w' := by
  have bA := (Bl.refl w).alloc (.cells blank 34)
  refine (wrap_trim p ep' mk' w (fun wh1 ep1 mk1 kd cl ca v w1 => wh1 = 1 ∧ ep1 = 0 ∧ mk1 = mk' ∧ kd = 0 ∧ cl = 0 ∧ ca = 0 ∧ v = nilS ∧ ∃ K', Ks base w1 p a b c d ch ep' mk' ct (img ++ recB 2 [ep', mk'] []) K' ∧ Only (fun b => b = p ∨ (K 71).ownBlock = some b) w w1) ?_).mono ?_
  · have hs := trimNew_any base p a b c d ch ep mk ct img K ep' mk' _ (h.bl bA) (Nat.le_trans hb bA.lt) hl he
    rw [if_pos hm, if_pos hm] at hs
    refine hs.mono ?_
    rintro e w1 ⟨K', rfl, hk, ho⟩
    exact ⟨_, _, _, _, _, _, _, _, _, rfl, ⟨rfl, rfl, rfl, rfl, rfl, rfl, rfl, K', hk, (Only.of_bl bA).trans ho⟩, (ho.block _ (by simp) (h.ne (Nat.le_refl _))).trans (heap_alloc_new w _)⟩
  · rintro e w' ⟨_, _, _, _, _, _, v, w1, rfl, ⟨rfl, rfl, rfl, rfl, rfl, rfl, rfl, K', hk, ho⟩, hN, hO⟩
    have := h.at'.lt
    exact ⟨K', rfl, hk.other hO hN (by omega), ho.trans_new hO (fun g e => Nat.le_of_eq e.symm)⟩
end Go.Proofs.Ytbghhbpacijmmaa
