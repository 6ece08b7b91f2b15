-- What the calls of package furrow on cells do.
-- A unit whose blocks bear a mark: what its calls do.
-- Calls of package furrow on a unit: a seal of any epoch, a trim that lays no mark, a write of what is no content.
-- What a unit answers, and what it has then.
-- What a unit answers to a write, and what it has then.
import Derived.Test.YtkgjpfamjedncaaGreatMatchVTagOpenCWrapQ
namespace Go.Proofs.YtkgjpfamjedncaaGreat
open Go.RowKit

theorem Ks.ne {base : Nat} {w : World} {p : Nat} {a b c d ch ep mk : Int} {ct : Nat → Ct} {img : List Int} {K : Nat → Value} (h : Ks base w p a b c d ch ep mk ct img K) {g : Nat} (hg : w.heap.size ≤ g) : ¬ (g = p ∨ (K 71).ownBlock = some g) := by
  have := h.at'.lt
  rintro (e | e)
  · omega
  · have := (h.own.lt _ e).2; omega

theorem owned_slice {w : World} {B n : Nat} {v : Value} {xs : List Value} (h : w.ownsRow B 5 1 v n xs) : ∃ a c, v = .slice a n c := by
  obtain ⟨a', c', e'⟩ := (ownsRow_sl h).len
  rw [ownsRow_len h] at e'
  exact ⟨a', c', e'⟩

abbrev nilS : Value := .slice none 0 0

theorem fread_old (base p : Nat) (a b c d ch ep mk : Int) (ct : Nat → Ct) (img : List Int) (K : Nat → Value) (ep' x : Int) (w : World) (h : Ks base w p a b c d ch ep mk ct img K) (he : ep' < ep) :
    Calls Tryz.prog 40 #[.pointer (some ⟨p, 0, none⟩), .int .i64 ep', .int .i64 x] w fun e w' => e = .returned (reply 5 ep 0 0 0 0 nilS) ∧ Ks base w' p a b c d ch ep mk ct img K ∧ Bl w w' := by
  have bA := (Bl.refl w).alloc (.cells blank 98)
  refine (wrap_read p ep' x w (fun wh ep1 mk1 kd cl ca v w1 => wh = 5 ∧ ep1 = ep ∧ mk1 = 0 ∧ kd = 0 ∧ cl = 0 ∧ ca = 0 ∧ v = nilS ∧ Ks base w1 p a b c d ch ep mk ct img K ∧ Bl w w1) ?_).mono ?_
  · refine (readOld_any base p a b c d ch ep mk ct img K ep' x _ (h.bl bA) he).mono ?_
    rintro e w1 ⟨rfl, hk, hb⟩
    exact ⟨_, _, _, _, _, _, _, _, _, rfl, ⟨rfl, rfl, rfl, rfl, rfl, rfl, rfl, hk, bA.trans hb⟩, (hb.heap (by simp)).trans (heap_alloc_new w _)⟩
  · rintro e w' ⟨_, _, _, _, _, _, _, w1, rfl, ⟨rfl, rfl, rfl, rfl, rfl, rfl, rfl, hk, hb⟩, hN, hO⟩
    have := h.at'.lt
    exact ⟨rfl, hk.other hO hN (by omega), hb.trans_only hO (fun n e => by omega)⟩

theorem ftrim_old (base p : Nat) (a b c d ch ep mk : Int) (ct : Nat → Ct) (img : List Int) (K : Nat → Value) (ep' x : Int) (w : World) (h : Ks base w p a b c d ch ep mk ct img K) (he : ep' < ep) :
    Calls Tryz.prog 45 #[.pointer (some ⟨p, 0, none⟩), .int .i64 ep', .int .i64 x] w fun e w' => e = .returned (reply 5 ep 0 0 0 0 nilS) ∧ Ks base w' p a b c d ch ep mk ct img K ∧ Bl w w' := by
  have bA := (Bl.refl w).alloc (.cells blank 98)
  refine (wrap_trim p ep' x w (fun wh ep1 mk1 kd cl ca v w1 => wh = 5 ∧ ep1 = ep ∧ mk1 = 0 ∧ kd = 0 ∧ cl = 0 ∧ ca = 0 ∧ v = nilS ∧ Ks base w1 p a b c d ch ep mk ct img K ∧ Bl w w1) ?_).mono ?_
  · refine (trimOld_any base p a b c d ch ep mk ct img K ep' x _ (h.bl bA) he).mono ?_
    rintro e w1 ⟨rfl, hk, hb⟩
    exact ⟨_, _, _, _, _, _, _, _, _, rfl, ⟨rfl, rfl, rfl, rfl, rfl, rfl, rfl, hk, bA.trans hb⟩, (hb.heap (by simp)).trans (heap_alloc_new w _)⟩
  · rintro e w' ⟨_, _, _, _, _, _, _, w1, rfl, ⟨rfl, rfl, rfl, rfl, rfl, rfl, rfl, hk, hb⟩, hN, hO⟩
    have := h.at'.lt
    exact ⟨rfl, hk.other hO hN (by omega), hb.trans_only hO (fun n e => by omega)⟩

theorem fwrite_old (base p : Nat) (a b c d ch ep mk : Int) (ct : Nat → Ct) (img : List Int) (K : Nat → Value) (ep' x kd cl ca : Int) (va : Option Addr) (vn vc : Nat) (w : World) (h : Ks base w p a b c d ch ep mk ct img K) (he : ep' < ep) :
    Calls Tryz.prog 43 #[.pointer (some ⟨p, 0, none⟩), .int .i64 ep', .int .i64 x, .agg #[.int .i64 kd, .int .i64 cl, .int .i64 ca, .slice va vn vc]] w fun e w' => e = .returned (reply 5 ep 0 0 0 0 nilS) ∧ Ks base w' p a b c d ch ep mk ct img K ∧ Bl w w' := by
  refine (wrap_write p ep' x kd cl ca va vn vc w (fun wh ep1 mk1 kd cl ca v w1 => wh = 5 ∧ ep1 = ep ∧ mk1 = 0 ∧ kd = 0 ∧ cl = 0 ∧ ca = 0 ∧ v = nilS ∧ Ks base w1 p a b c d ch ep mk ct img K ∧ Bl w w1) ?_).mono ?_
  · intro W hW hs hN
    refine (writeOld_any base p a b c d ch ep mk ct img K ep' x kd cl ca va vn vc W (h.bl hW) he).mono ?_
    rintro e w1 ⟨rfl, hk, hb⟩
    exact ⟨_, _, _, _, _, _, _, _, _, rfl, ⟨rfl, rfl, rfl, rfl, rfl, rfl, rfl, hk, hW.trans hb⟩, (hb.heap (by omega)).trans hN⟩
  · rintro e w' ⟨_, _, _, _, _, _, _, w1, rfl, ⟨rfl, rfl, rfl, rfl, rfl, rfl, rfl, hk, hb⟩, hN, hO⟩
    have := h.at'.lt
    exact ⟨rfl, hk.other hO hN (by omega), hb.trans_only hO (fun n e => by omega)⟩

theorem fread_new (base p : Nat) (a b c d ch ep mk : Int) (ct : Nat → Ct) (img : List Int) (K : Nat → Value) (ep' x : Int) (w : World) (h : Ks base w p a b c d ch ep mk ct img K) (hb : base ≤ w.heap.size) (hl : img.length ≤ 30000000) (hct : ∀ i, i < 16 → (ct i).val.length ≤ 255) (he : ¬ ep' < ep) (wh m : Int) (t : Ct) (hlook : lookC a b c d ch mk ct x = (wh, m, t)) :
    Calls Tryz.prog 40 #[.pointer (some ⟨p, 0, none⟩), .int .i64 ep', .int .i64 x] w fun e w' => ∃ K' v', e = .returned (reply wh 0 m t.kd t.cl t.ca v') ∧ w'.ownsRow w.heap.size 5 1 v' t.val.length (t.val.map B8) ∧ Ks base w' p a b c d ch ep' mk ct (img ++ if ep' = ep then [] else recB 1 [ep'] []) K' ∧ Gk p K K' w w' ∧ (ep' = ep → K' = K ∧ Bl w w') ∧ ∀ g, v'.ownBlock = some g → ¬ KF K' g := by
  have bA := (Bl.refl w).alloc (.cells blank 98)
  refine (wrap_read p ep' x w (fun wh1 ep1 mk1 kd cl ca v w1 => wh1 = wh ∧ ep1 = 0 ∧ mk1 = m ∧ kd = t.kd ∧ cl = t.cl ∧ ca = t.ca ∧ w1.ownsRow w.heap.size 5 1 v t.val.length (t.val.map B8) ∧ ∃ K', Ks base w1 p a b c d ch ep' mk ct (img ++ if ep' = ep then [] else recB 1 [ep'] []) K' ∧ Gk p K K' w w1 ∧ (ep' = ep → K' = K ∧ Bl w w1) ∧ ∀ g, v.ownBlock = some g → ¬ KF K' g) ?_).mono ?_
  · refine (readNew_any base p a b c d ch ep mk ct img K ep' x _ (h.bl bA) (Nat.le_trans hb bA.lt) hl hct he wh m t hlook).mono ?_
    rintro e w1 ⟨K', v', rfl, hv, hk, ho, hs, hvd⟩
    obtain ⟨sa, sc, rfl⟩ := owned_slice hv
    exact ⟨_, _, _, _, _, _, _, _, _, rfl, ⟨rfl, rfl, rfl, rfl, rfl, rfl, ownsRow_base hv fun g e => Nat.le_trans bA.lt (hv.lt g e).1, K', hk, ho.pre bA, fun e => ⟨(hs e).1, bA.trans (hs e).2⟩, hvd⟩, (ho.only.block _ (by simp) (h.ne (Nat.le_refl _))).trans (heap_alloc_new w _)⟩
  · rintro e w' ⟨_, _, _, _, _, _, v, w1, rfl, ⟨rfl, rfl, rfl, rfl, rfl, rfl, hv, K', hk, ho, hs, hvd⟩, hN, hO⟩
    have := h.at'.lt
    exact ⟨K', v, rfl, hO.owns hv fun g e e' => own_ne_block hv hN (by decide) (by rw [e, e']), hk.other hO hN (by omega), ho.new hO (fun g e => Nat.le_of_eq e.symm), fun e => ⟨(hs e).1, (hs e).2.trans_only hO (fun n e => by omega)⟩, hvd⟩

theorem fwrite_told (base p : Nat) (a b c d ch ep mk : Int) (ct : Nat → Ct) (img : List Int) (K : Nat → Value) (ep' x kd cl ca : Int) (va : Option Addr) (vn vc : Nat) (w : World) (h : Ks base w p a b c d ch ep mk ct img K) (hb : base ≤ w.heap.size) (hl : img.length ≤ 30000000) (hct : ∀ i, i < 16 → (ct i).val.length ≤ 255) (hvn : vn ≤ 255)
    (he : ¬ ep' < ep) (wh m : Int) (t : Ct) (hlook : lookC a b c d ch mk ct x = (wh, m, t)) (hwh : wh ≠ 3) (hc : isC kd vn = true) :
    Calls Tryz.prog 43 #[.pointer (some ⟨p, 0, none⟩), .int .i64 ep', .int .i64 x, .agg #[.int .i64 kd, .int .i64 cl, .int .i64 ca, .slice va vn vc]] w fun e w' => ∃ K' v', e = .returned (reply wh 0 m t.kd t.cl t.ca v') ∧ w'.ownsRow w.heap.size 5 1 v' t.val.length (t.val.map B8) ∧ Ks base w' p a b c d ch ep' mk ct (img ++ if ep' = ep then [] else recB 1 [ep'] []) K' ∧ Gk p K K' w w' ∧ (ep' = ep → K' = K ∧ Bl w w') ∧ ∀ g, v'.ownBlock = some g → ¬ KF K' g := by
  refine (wrap_write p ep' x kd cl ca va vn vc w (fun wh1 ep1 mk1 kd cl ca v w1 => wh1 = wh ∧ ep1 = 0 ∧ mk1 = m ∧ kd = t.kd ∧ cl = t.cl ∧ ca = t.ca ∧ w1.ownsRow w.heap.size 5 1 v t.val.length (t.val.map B8) ∧ ∃ K', Ks base w1 p a b c d ch ep' mk ct (img ++ if ep' = ep then [] else recB 1 [ep'] []) K' ∧ Gk p K K' w w1 ∧ (ep' = ep → K' = K ∧ Bl w w1) ∧ ∀ g, v.ownBlock = some g → ¬ KF K' g) ?_).mono ?_
  · intro W hW hsz hN
    refine (writeTold_any base p a b c d ch ep mk ct img K ep' x kd cl ca va vn vc W (h.bl hW) (Nat.le_trans hb hW.lt) hl hct hvn he wh m t hlook hwh hc).mono ?_
    rintro e w1 ⟨K', v', rfl, hv, hk, ho, hs, hvd⟩
    obtain ⟨sa, sc, rfl⟩ := owned_slice hv
    exact ⟨_, _, _, _, _, _, _, _, _, rfl, ⟨rfl, rfl, rfl, rfl, rfl, rfl, ownsRow_base hv fun g e => Nat.le_trans hW.lt (hv.lt g e).1, K', hk, ho.pre hW, fun e => ⟨(hs e).1, hW.trans (hs e).2⟩, hvd⟩, (ho.only.block _ (by omega) (h.ne (by omega))).trans hN⟩
  · rintro e w' ⟨_, _, _, _, _, _, v, w1, rfl, ⟨rfl, rfl, rfl, rfl, rfl, rfl, hv, K', hk, ho, hs, hvd⟩, hN, hO⟩
    have := h.at'.lt
    exact ⟨K', v, rfl, hO.owns hv fun g e e' => own_ne_block hv hN (by decide) (by rw [e, e']), hk.other hO hN (by omega), ho.new hO (fun g e => by omega), fun e => ⟨(hs e).1, (hs e).2.trans_only hO (fun n e => by omega)⟩, hvd⟩

theorem fwrite_empty (base p : Nat) (a b c d ch ep mk : Int) (ct : Nat → Ct) (img : List Int) (K : Nat → Value) (ep' x kd cl ca : Int) (v : Value) (ys : List Int) (i : Nat) (w : World) (h : Ks base w p a b c d ch ep mk ct img K) (hb : base ≤ w.heap.size) (hl : img.length ≤ 30000000) (hct : ∀ i, i < 16 → (ct i).val.length ≤ 255) (hv : Bs w v (ys.map B8)) (hy : ys.length ≤ 255) (hvb : ∀ g, v.ownBlock = some g → g < w.heap.size ∧ (K 71).ownBlock ≠ some g ∧ g ≠ p)
    (he : ¬ ep' < ep) (hi : i < 16) (hloc : loc a b c d x = (ch, (i : Int), 0)) (hlook : lookC a b c d ch mk ct x = (3, 0, ⟨0, 0, 0, []⟩)) (hc : isC kd ys.length = true) :
    Calls Tryz.prog 43 #[.pointer (some ⟨p, 0, none⟩), .int .i64 ep', .int .i64 x, .agg #[.int .i64 kd, .int .i64 cl, .int .i64 ca, v]] w fun e w' => ∃ K', e = .returned (reply 1 0 0 0 0 0 nilS) ∧ Ks base w' p a b c d ch ep' mk (fun j => if j = i then ⟨kd, cl, ca, ys⟩ else ct j) (img ++ recB 3 [ep', x, kd, cl, ca] ys) K' ∧ Gk p K K' w w' := by
  obtain ⟨va, vc, ev⟩ := hv.len
  subst ev
  refine (wrap_write p ep' x kd cl ca va _ vc w (fun wh1 ep1 mk1 kd1 cl1 ca1 v w1 => wh1 = 1 ∧ ep1 = 0 ∧ mk1 = 0 ∧ kd1 = 0 ∧ cl1 = 0 ∧ ca1 = 0 ∧ v = nilS ∧ ∃ K', Ks base w1 p a b c d ch ep' mk (fun j => if j = i then ⟨kd, cl, ca, ys⟩ else ct j) (img ++ recB 3 [ep', x, kd, cl, ca] ys) K' ∧ Gk p K K' w w1) ?_).mono ?_
  · intro W hW hsz hN
    refine (writeEmpty_any base p a b c d ch ep mk ct img K ep' x kd cl ca _ ys i W (h.bl hW) (Nat.le_trans hb hW.lt) hl hct (hv.bl hW) hy (fun g e => ⟨Nat.lt_of_lt_of_le (hvb g e).1 hW.lt, (hvb g e).2⟩) he hi hloc hlook hc).mono ?_
    rintro e w1 ⟨K', rfl, hk, ho⟩
    exact ⟨_, _, _, _, _, _, _, _, _, rfl, ⟨rfl, rfl, rfl, rfl, rfl, rfl, rfl, K', hk, ho.pre hW⟩, (ho.only.block _ (by omega) (h.ne (by omega))).trans hN⟩
  · rintro e w' ⟨_, _, _, _, _, _, v, w1, rfl, ⟨rfl, rfl, rfl, rfl, rfl, rfl, rfl, K', hk, ho⟩, hN, hO⟩
    have := h.at'.lt
    exact ⟨K', rfl, hk.other hO hN (by omega), ho.new hO (fun g e => by omega)⟩

theorem fseal_new (base p : Nat) (a b c d ch ep mk : Int) (ct : Nat → Ct) (img : List Int) (K : Nat → Value) (ep' : Int) (w : World) (h : Ks base w p a b c d ch ep mk ct img K) (hb : base ≤ w.heap.size) (hl : img.length ≤ 30000000) (he : ep < ep') :
    Calls Tryz.prog 47 #[.pointer (some ⟨p, 0, none⟩), .int .i64 ep'] w fun e w' => ∃ K', e = .returned (reply 1 ep' 0 0 0 0 nilS) ∧ Ks base w' p a b c d ch ep' mk ct (img ++ recB 1 [ep'] []) K' ∧ Gk p K K' w w' := by
  have bA := (Bl.refl w).alloc (.cells blank 98)
  refine (wrap_seal p ep' w (fun wh1 ep1 mk1 kd cl ca v w1 => wh1 = 1 ∧ ep1 = ep' ∧ mk1 = 0 ∧ kd = 0 ∧ cl = 0 ∧ ca = 0 ∧ v = nilS ∧ ∃ K', Ks base w1 p a b c d ch ep' mk ct (img ++ recB 1 [ep'] []) K' ∧ Gk p K K' w w1) ?_).mono ?_
  · have hs := seal_any base p a b c d ch ep mk ct img K ep' _ (h.bl bA) (Nat.le_trans hb bA.lt) hl
    rw [if_neg (by omega), if_neg (by omega), if_neg (by omega)] at hs
    refine hs.mono ?_
    rintro e w1 ⟨K', rfl, hk, ho⟩
    exact ⟨_, _, _, _, _, _, _, _, _, rfl, ⟨rfl, rfl, rfl, rfl, rfl, rfl, rfl, K', hk, ho.pre bA⟩, (ho.only.block _ (by simp) (h.ne (Nat.le_refl _))).trans (heap_alloc_new w _)⟩
  · rintro e w' ⟨_, _, _, _, _, _, v, w1, rfl, ⟨rfl, rfl, rfl, rfl, rfl, rfl, rfl, K', hk, ho⟩, hN, hO⟩
    have := h.at'.lt
    exact ⟨K', rfl, hk.other hO hN (by omega), ho.new hO (fun g e => Nat.le_of_eq e.symm)⟩

theorem ftrim_new (base p : Nat) (a b c d ch ep mk : Int) (ct : Nat → Ct) (img : List Int) (K : Nat → Value) (ep' mk' : Int) (w : World) (h : Ks base w p a b c d ch ep mk ct img K) (hb : base ≤ w.heap.size) (hl : img.length ≤ 30000000) (he : ¬ ep' < ep) (hm : mk < mk') :
    Calls Tryz.prog 45 #[.pointer (some ⟨p, 0, none⟩), .int .i64 ep', .int .i64 mk'] w fun e w' => ∃ K', e = .returned (reply 1 0 mk' 0 0 0 nilS) ∧ Ks base w' p a b c d ch ep' mk' ct (img ++ recB 2 [ep', mk'] []) K' ∧ Gk p K K' w w' := by
  have bA := (Bl.refl w).alloc (.cells blank 98)
  refine (wrap_trim p ep' mk' w (fun wh1 ep1 mk1 kd cl ca v w1 => wh1 = 1 ∧ ep1 = 0 ∧ mk1 = mk' ∧ kd = 0 ∧ cl = 0 ∧ ca = 0 ∧ v = nilS ∧ ∃ K', Ks base w1 p a b c d ch ep' mk' ct (img ++ recB 2 [ep', mk'] []) K' ∧ Gk p K K' w w1) ?_).mono ?_
  · have hs := trimNew_any base p a b c d ch ep mk ct img K ep' mk' _ (h.bl bA) (Nat.le_trans hb bA.lt) hl he
    rw [if_pos hm, if_pos hm] at hs
    refine hs.mono ?_
    rintro e w1 ⟨K', rfl, hk, ho⟩
    exact ⟨_, _, _, _, _, _, _, _, _, rfl, ⟨rfl, rfl, rfl, rfl, rfl, rfl, rfl, K', hk, ho.pre bA⟩, (ho.only.block _ (by simp) (h.ne (Nat.le_refl _))).trans (heap_alloc_new w _)⟩
  · rintro e w' ⟨_, _, _, _, _, _, v, w1, rfl, ⟨rfl, rfl, rfl, rfl, rfl, rfl, rfl, K', hk, ho⟩, hN, hO⟩
    have := h.at'.lt
    exact ⟨K', rfl, hk.other hO hN (by omega), ho.new hO (fun g e => Nat.le_of_eq e.symm)⟩
end Go.Proofs.YtkgjpfamjedncaaGreat

namespace Go.Proofs.YtkgjpfamjedncaaGreat
open Go.RowKit Go.Maps

theorem Ks.away {S : Nat → Prop} {base : Nat} {w w' : World} {p : Nat} {a b c d ch ep mk : Int} {ct : Nat → Ct} {img : List Int} {K : Nat → Value} (h : Ks base w p a b c d ch ep mk ct img K) (ho : Only S w w') (h1 : ¬ S p) (h2 : ∀ g, g < w.heap.size → KF K g → ¬ S g) : Ks base w' p a b c d ch ep mk ct img K :=
  ⟨h.at'.only ho h1, h.k0, h.k1, h.k2, h.k3, h.k4, h.k5, h.k6, ho.owns h.own fun g e => h2 g (h.own.lt g e).2 (.inl e), h.kd, h.cl, h.ca, fun i hi => ho.owns (h.val i hi) fun g e => h2 g ((h.val i hi).lt g e).2 (.inr ⟨i, hi, e⟩), h.apart⟩
theorem Ks.zero {base : Nat} {w : World} {p : Nat} {a b c d ch ep mk : Int} {ct : Nat → Ct} {img : List Int} {K : Nat → Value} (h : Ks base w p a b c d ch ep mk ct img K) : Ks 0 w p a b c d ch ep mk ct img K :=
  ⟨h.at', h.k0, h.k1, h.k2, h.k3, h.k4, h.k5, h.k6, ownsRow_base h.own fun _ _ => Nat.zero_le _, h.kd, h.cl, h.ca, fun i hi => ownsRow_base (h.val i hi) fun _ _ => Nat.zero_le _, h.apart⟩

/-- The unit in block p, whose blocks bear the mark tg, has the records rs, with the states S. -/
def Kt (w : World) (tag : Nat → Nat) (tg p : Nat) (a b c d ch : Int) (rs : List Rc) (S : Nat → St) : Prop :=
  ∃ K, Ks 0 w p a b c d ch (S rs.length).ep (S rs.length).mark (S rs.length).ct (flat rs) K ∧ Way a b c d ch rs S ∧ tag p = tg ∧ ∀ g, KF K g → tag g = tg
section
variable {w w' : World} {tag tag' : Nat → Nat} {tg p : Nat} {a b c d ch : Int} {rs : List Rc} {S : Nat → St}
theorem Kt.lt (h : Kt w tag tg p a b c d ch rs S) : p < w.heap.size ∧ tag p = tg := by
  obtain ⟨K, hk, _, hp, _⟩ := h
  exact ⟨hk.at'.lt, hp⟩
theorem Kt.way (h : Kt w tag tg p a b c d ch rs S) : Way a b c d ch rs S := by
  obtain ⟨K, _, hw, _⟩ := h
  exact hw
theorem Kt.only {T : Nat → Prop} (h : Kt w tag tg p a b c d ch rs S) (ho : Only T w w') (hs : ∀ b, b < w.heap.size → T b → tag b ≠ tg) (ht : ∀ b, b < w.heap.size → tag' b = tag b) : Kt w' tag' tg p a b c d ch rs S := by
  obtain ⟨K, hk, hw, hp, hg⟩ := h
  exact ⟨K, hk.away ho (fun e => hs p hk.at'.lt e hp) (fun g hl hF e => hs g hl e (hg g hF)), hw, by rw [ht p hk.at'.lt, hp], fun g hF => by rw [ht g (hk.foot hF).2, hg g hF]⟩
theorem Kt.bl (h : Kt w tag tg p a b c d ch rs S) (hb : Bl w w') : Kt w' tag tg p a b c d ch rs S := h.only (Only.of_bl (S := fun _ => False) hb) (fun _ _ e => e.elim) (fun _ _ => rfl)
/-- The states, with one more. -/
def upK (S : Nat → St) (n : Nat) (s : St) : Nat → St := fun j => if j = n + 1 then s else S j
theorem upK_last (S : Nat → St) (rs : List Rc) (r : Rc) (s : St) : upK S rs.length s (rs ++ [r]).length = s := by simp [upK]
theorem upK_old (S : Nat → St) (n k : Nat) (s : St) (h : k ≤ n) : upK S n s k = S k := by unfold upK; rw [if_neg (by omega)]
theorem Way.snoc (h : Way a b c d ch rs S) {r : Rc} {s : St} (hp : Plays a b c d ch (S rs.length) r s) (ho : r.Ok shs) : Way a b c d ch (rs ++ [r]) (upK S rs.length s) where
  zero := by rw [upK_old _ _ _ _ (Nat.zero_le _)]; exact h.zero
  step := fun j hj => by
    rw [List.length_append, List.length_singleton] at hj
    by_cases e : j < rs.length
    · rw [upK_old _ _ _ _ (by omega), upK_old _ _ _ _ (by omega), List.getElem_append_left e]
      exact h.step j e
    · obtain rfl : j = rs.length := by omega
      rw [upK_old _ _ _ _ (Nat.le_refl _)]
      unfold upK
      rw [if_pos rfl]
      simpa using hp
  ok := fun x hx => by
    rcases List.mem_append.1 hx with hx | hx
    · exact h.ok x hx
    · simp at hx; subst hx; exact ho
/-- A call leaves a record. -/
theorem Kt.step {K K' : Nat → Value} {r : Rc} {s : St} (hk : Ks 0 w p a b c d ch (S rs.length).ep (S rs.length).mark (S rs.length).ct (flat rs) K) (hw : Way a b c d ch rs S) (hp : tag p = tg) (hg : ∀ g, KF K g → tag g = tg)
    (hpl : Plays a b c d ch (S rs.length) r s) (ho : r.Ok shs) (hk' : Ks 0 w' p a b c d ch s.ep s.mark s.ct (flat rs ++ r.bytes) K') (hG : Gk p K K' w w') :
    (∀ v : Value, (∀ g, v.ownBlock = some g → ¬ KF K' g) → Kt w' (tagV tag w.heap.size tg v) tg p a b c d ch (rs ++ [r]) (upK S rs.length s)) ∧ Only (fun b => tag b = tg) w w' := by
  have O : Only (fun b => tag b = tg) w w' := hG.only.mono fun b _ e => by
    rcases e with rfl | e
    · exact hp
    · exact hg b (.inl e)
  refine ⟨fun v hd => ⟨K', ?_, hw.snoc hpl ho, by rw [tagV_old _ _ _ _ _ hk.at'.lt, hp], fun g hF => ?_⟩, O⟩
  · rw [upK_last, flat_append]
    simpa [flat] using hk'
  · rcases hG.lies g hF with h1 | h1
    · rw [tagV_old _ _ _ _ _ (hk.foot h1).2, hg g h1]
    · exact tagV_new _ _ _ _ _ h1 fun e => hd g e hF

theorem kok_seal (e : Int) (he : (Lit.int .i64 e).wf = true) : Rc.Ok shs ⟨1, [e], []⟩ :=
  ⟨by simp, by simp, by simp, by simp, by simp, by simp; exact he, by simp, (1, 1, 0), by decide, rfl, rfl, by simp⟩
theorem kok_trim (e m : Int) (he : (Lit.int .i64 e).wf = true) (hm : (Lit.int .i64 m).wf = true) : Rc.Ok shs ⟨2, [e, m], []⟩ :=
  ⟨by simp, by simp, by simp, by simp, by simp, by simp; exact ⟨he, hm⟩, by simp, (2, 2, 0), by decide, rfl, rfl, by simp⟩
theorem kok_write (e x kd cl ca : Int) (ys : List Int) (he : (Lit.int .i64 e).wf = true) (hx : (Lit.int .i64 x).wf = true) (hk : (Lit.int .i64 kd).wf = true) (hc : (Lit.int .i64 cl).wf = true) (ha : (Lit.int .i64 ca).wf = true) (hy : ys.length ≤ 8) (hys : ∀ d ∈ ys, 0 ≤ d ∧ d ≤ 255) : Rc.Ok shs ⟨3, [e, x, kd, cl, ca], ys⟩ :=
  ⟨by simp, by simp, by simp, by simp, by simp; omega, by simp; exact ⟨he, hx, hk, hc, ha⟩, hys, (3, 5, 8), by decide, rfl, rfl, by simp; omega⟩
theorem kt_image (h : Kt w tag tg p a b c d ch rs S) (hl : (flat rs).length ≤ 30000000) :
    Calls Tryz.prog 35 #[.pointer (some ⟨p, 0, none⟩)] w fun en w' => ∃ v, en = .returned v ∧ Bl w w' ∧ w'.ownsRow w.heap.size 5 1 v (flat rs).length ((flat rs).map B8) := by
  obtain ⟨K, hk, _⟩ := h
  exact fimage_any 0 p a b c d ch _ _ _ (flat rs) K w hk hl
/-- It is opened from the beginning of an image: as behind the last record of which all is there. -/
theorem kt_open (hw : Way a b c d ch rs S) (u : Int) (hch : cha a b c d u = (ch, 0)) (ad : Option Addr) (n cc : Nat) (hl : (flat rs).length ≤ 30000000) (hc : Cut w ad n cc rs) (tag : Nat → Nat) (tg : Nat) :
    Calls Tryz.prog 29 #[.agg #[.int .i64 a, .int .i64 b, .int .i64 c, .int .i64 d], .int .i64 u, .slice ad n cc] w fun en w' => ∃ k p, en = .returned (.tuple #[.pointer (some ⟨p, 0, none⟩), .int .i64 0]) ∧ k ≤ rs.length ∧ off rs k ≤ n ∧ (∀ h : k < rs.length, n < off rs k + rs[k].bytes.length) ∧ w.heap.size ≤ p ∧ Bl w w' ∧ Kt w' (tagTo tag w.heap.size tg) tg p a b c d ch (rs.take k) S := by
  refine (openCells_any a b c d u ch ad n cc rs S w hch hw hl hc).mono ?_
  rintro en w' ⟨k, p, K, rfl, h1, h2, h3, h4, h5, _, h7⟩
  have hk : (rs.take k).length = k := by rw [List.length_take]; omega
  have hw' : Way a b c d ch (rs.take k) S := ⟨hw.zero, fun j hj => by
    rw [hk] at hj
    have := hw.step j (by omega)
    simpa [List.getElem_take] using this, fun r hr => hw.ok r (List.mem_of_mem_take hr)⟩
  refine ⟨k, p, rfl, h1, h2, h3, h4, h7, K, ?_, hw', tagTo_new _ _ _ _ h4, fun g hF => tagTo_new _ _ _ _ (h5.foot hF).1⟩
  rw [hk]
  exact h5.zero
end
end Go.Proofs.YtkgjpfamjedncaaGreat

namespace Go.Proofs.YtkgjpfamjedncaaGreat
open Go.RowKit Go.Maps

theorem fseal_any (base p : Nat) (a b c d ch ep mk : Int) (ct : Nat → Ct) (img : List Int) (K : Nat → Value) (ep' : Int) (w : World) (h : Ks base w p a b c d ch ep mk ct img K) (hb : base ≤ w.heap.size) (hl : img.length ≤ 30000000) :
    Calls Tryz.prog 47 #[.pointer (some ⟨p, 0, none⟩), .int .i64 ep'] w fun e w' => ∃ K', e = .returned (if ep' < ep then reply 5 ep 0 0 0 0 nilS else reply 1 ep' 0 0 0 0 nilS) ∧ Ks base w' p a b c d ch (if ep' < ep then ep else ep') mk ct (if ep' < ep ∨ ep' = ep then img else img ++ recB 1 [ep'] []) K' ∧ Gk p K K' w w' := by
  have bA := (Bl.refl w).alloc (.cells blank 98)
  obtain ⟨wh, q, hwq⟩ : ∃ wh q, (if ep' < ep then reply 5 ep 0 0 0 0 nilS else reply 1 ep' 0 0 0 0 nilS) = reply wh q 0 0 0 0 nilS := by
    by_cases he : ep' < ep
    · exact ⟨5, ep, by rw [if_pos he]⟩
    · exact ⟨1, ep', by rw [if_neg he]⟩
  rw [hwq]
  refine (wrap_seal p ep' w (fun wh1 ep1 mk1 kd cl ca v w1 => wh1 = wh ∧ ep1 = q ∧ mk1 = 0 ∧ kd = 0 ∧ cl = 0 ∧ ca = 0 ∧ v = nilS ∧ ∃ K', Ks base w1 p a b c d ch (if ep' < ep then ep else ep') mk ct (if ep' < ep ∨ ep' = ep then img else img ++ recB 1 [ep'] []) K' ∧ Gk p K K' w w1) ?_).mono ?_
  · have hs := seal_any base p a b c d ch ep mk ct img K ep' _ (h.bl bA) (Nat.le_trans hb bA.lt) hl
    rw [hwq] at hs
    refine hs.mono ?_
    rintro e w1 ⟨K', rfl, hk, ho⟩
    exact ⟨_, _, _, _, _, _, _, _, _, rfl, ⟨rfl, rfl, rfl, rfl, rfl, rfl, rfl, K', hk, ho.pre bA⟩, (ho.only.block _ (by simp) (h.ne (Nat.le_refl _))).trans (heap_alloc_new w _)⟩
  · rintro e w' ⟨_, _, _, _, _, _, v, w1, rfl, ⟨rfl, rfl, rfl, rfl, rfl, rfl, rfl, K', hk, ho⟩, hN, hO⟩
    have := h.at'.lt
    exact ⟨K', rfl, hk.other hO hN (by omega), ho.new hO (fun g e => Nat.le_of_eq e.symm)⟩

theorem ftrim_any (base p : Nat) (a b c d ch ep mk : Int) (ct : Nat → Ct) (img : List Int) (K : Nat → Value) (ep' mk' : Int) (w : World) (h : Ks base w p a b c d ch ep mk ct img K) (hb : base ≤ w.heap.size) (hl : img.length ≤ 30000000) (he : ¬ ep' < ep) :
    Calls Tryz.prog 45 #[.pointer (some ⟨p, 0, none⟩), .int .i64 ep', .int .i64 mk'] w fun e w' => ∃ K', e = .returned (reply 1 0 (if mk < mk' then mk' else mk) 0 0 0 nilS) ∧ Ks base w' p a b c d ch ep' (if mk < mk' then mk' else mk) ct (img ++ if mk < mk' then recB 2 [ep', mk'] [] else if ep' = ep then [] else recB 1 [ep'] []) K' ∧ Gk p K K' w w' := by
  have bA := (Bl.refl w).alloc (.cells blank 98)
  refine (wrap_trim p ep' mk' w (fun wh1 ep1 mk1 kd cl ca v w1 => wh1 = 1 ∧ ep1 = 0 ∧ mk1 = (if mk < mk' then mk' else mk) ∧ kd = 0 ∧ cl = 0 ∧ ca = 0 ∧ v = nilS ∧ ∃ K', Ks base w1 p a b c d ch ep' (if mk < mk' then mk' else mk) ct (img ++ if mk < mk' then recB 2 [ep', mk'] [] else if ep' = ep then [] else recB 1 [ep'] []) K' ∧ Gk p K K' w w1) ?_).mono ?_
  · refine (trimNew_any base p a b c d ch ep mk ct img K ep' mk' _ (h.bl bA) (Nat.le_trans hb bA.lt) hl he).mono ?_
    rintro e w1 ⟨K', rfl, hk, ho⟩
    exact ⟨_, _, _, _, _, _, _, _, _, rfl, ⟨rfl, rfl, rfl, rfl, rfl, rfl, rfl, K', hk, ho.pre bA⟩, (ho.only.block _ (by simp) (h.ne (Nat.le_refl _))).trans (heap_alloc_new w _)⟩
  · rintro e w' ⟨_, _, _, _, _, _, v, w1, rfl, ⟨rfl, rfl, rfl, rfl, rfl, rfl, rfl, K', hk, ho⟩, hN, hO⟩
    have := h.at'.lt
    exact ⟨K', rfl, hk.other hO hN (by omega), ho.new hO (fun g e => Nat.le_of_eq e.symm)⟩

theorem fwrite_not (base p : Nat) (a b c d ch ep mk : Int) (ct : Nat → Ct) (img : List Int) (K : Nat → Value) (ep' x kd cl ca : Int) (va : Option Addr) (vn vc : Nat) (w : World) (h : Ks base w p a b c d ch ep mk ct img K) (hb : base ≤ w.heap.size) (hl : img.length ≤ 30000000) (hct : ∀ i, i < 16 → (ct i).val.length ≤ 255) (hvn : vn ≤ 255) (he : ¬ ep' < ep) (wh m : Int) (t : Ct) (hlook : lookC a b c d ch mk ct x = (wh, m, t)) (hc : isC kd vn = false) :
    Calls Tryz.prog 43 #[.pointer (some ⟨p, 0, none⟩), .int .i64 ep', .int .i64 x, .agg #[.int .i64 kd, .int .i64 cl, .int .i64 ca, .slice va vn vc]] w fun e w' => ∃ K', e = .returned (reply 6 0 0 0 0 0 nilS) ∧ Ks base w' p a b c d ch ep' mk ct (img ++ if ep' = ep then [] else recB 1 [ep'] []) K' ∧ Gk p K K' w w' := by
  refine (wrap_write p ep' x kd cl ca va vn vc w (fun wh1 ep1 mk1 kd cl ca v w1 => wh1 = 6 ∧ ep1 = 0 ∧ mk1 = 0 ∧ kd = 0 ∧ cl = 0 ∧ ca = 0 ∧ v = nilS ∧ ∃ K', Ks base w1 p a b c d ch ep' mk ct (img ++ if ep' = ep then [] else recB 1 [ep'] []) K' ∧ Gk p K K' w w1) ?_).mono ?_
  · intro W hW hs hN
    refine (writeNot_any base p a b c d ch ep mk ct img K ep' x kd cl ca va vn vc W (h.bl hW) (Nat.le_trans hb hW.lt) hl hct hvn he wh m t hlook hc).mono ?_
    rintro e w1 ⟨K', rfl, hk, ho⟩
    exact ⟨_, _, _, _, _, _, _, _, _, rfl, ⟨rfl, rfl, rfl, rfl, rfl, rfl, rfl, K', hk, ho.pre hW⟩, (ho.only.block _ (by omega) (h.ne (by omega))).trans hN⟩
  · rintro e w' ⟨_, _, _, _, _, _, v, w1, rfl, ⟨rfl, rfl, rfl, rfl, rfl, rfl, rfl, K', hk, ho⟩, hN, hO⟩
    have := h.at'.lt
    exact ⟨K', rfl, hk.other hO hN (by omega), ho.new hO (fun g e => by omega)⟩
end Go.Proofs.YtkgjpfamjedncaaGreat

namespace Go.Proofs.YtkgjpfamjedncaaGreat
open Go.RowKit Go.Maps

/-- The records go on by one at most. -/
def MoreK (rs : List Rc) (S : Nat → St) (rs' : List Rc) (S' : Nat → St) : Prop :=
  (rs' = rs ∧ S' = S) ∨ ∃ r s, rs' = rs ++ [r] ∧ S' = upK S rs.length s
section
variable {w w' : World} {tag tag' : Nat → Nat} {tg p : Nat} {a b c d ch : Int} {rs : List Rc} {S : Nat → St}
/-- A call leaves no record. -/
theorem Kt.same {K K' : Nat → Value} (hk : Ks 0 w p a b c d ch (S rs.length).ep (S rs.length).mark (S rs.length).ct (flat rs) K) (hw : Way a b c d ch rs S) (hp : tag p = tg) (hg : ∀ g, KF K g → tag g = tg)
    (hk' : Ks 0 w' p a b c d ch (S rs.length).ep (S rs.length).mark (S rs.length).ct (flat rs) K') (hG : Gk p K K' w w') :
    (∀ v : Value, (∀ g, v.ownBlock = some g → ¬ KF K' g) → Kt w' (tagV tag w.heap.size tg v) tg p a b c d ch rs S) ∧ Only (fun b => tag b = tg) w w' := by
  have O : Only (fun b => tag b = tg) w w' := hG.only.mono fun b _ e => by
    rcases e with rfl | e
    · exact hp
    · exact hg b (.inl e)
  refine ⟨fun v hd => ⟨K', hk', hw, by rw [tagV_old _ _ _ _ _ hk.at'.lt, hp], fun g hF => ?_⟩, O⟩
  rcases hG.lies g hF with h1 | h1
  · rw [tagV_old _ _ _ _ _ (hk.foot h1).2, hg g h1]
  · exact tagV_new _ _ _ _ _ h1 fun e => hd g e hF
theorem nilS_own (K' : Nat → Value) : ∀ g, (Value.slice none 0 0).ownBlock = some g → ¬ KF K' g := fun g e => by simp [Value.ownBlock] at e
/-- A call that reaches an epoch, and does nothing else. -/
theorem Kt.reach {K K' : Nat → Value} {e : Int} (hk : Ks 0 w p a b c d ch (S rs.length).ep (S rs.length).mark (S rs.length).ct (flat rs) K) (hw : Way a b c d ch rs S) (hp : tag p = tg) (hg : ∀ g, KF K g → tag g = tg) (hwf : (Lit.int .i64 e).wf = true) (he : ¬ e < (S rs.length).ep)
    (hk' : Ks 0 w' p a b c d ch e (S rs.length).mark (S rs.length).ct (flat rs ++ if e = (S rs.length).ep then [] else recB 1 [e] []) K') (hG : Gk p K K' w w') :
    ∃ rs' S', MoreK rs S rs' S' ∧ S' rs'.length = ⟨e, (S rs.length).mark, (S rs.length).ct⟩ ∧ (flat rs').length ≤ (flat rs).length + 24 ∧ (∀ v : Value, (∀ g, v.ownBlock = some g → ¬ KF K' g) → Kt w' (tagV tag w.heap.size tg v) tg p a b c d ch rs' S') ∧ Only (fun b => tag b = tg) w w' := by
  by_cases hq : e = (S rs.length).ep
  · rw [if_pos hq, List.append_nil, hq] at hk'
    obtain ⟨r1, r2⟩ := Kt.same hk hw hp hg hk' hG
    exact ⟨rs, S, .inl ⟨rfl, rfl⟩, by rw [hq], by omega, r1, r2⟩
  · rw [if_neg hq] at hk'
    obtain ⟨r1, r2⟩ := Kt.step (s := ⟨e, (S rs.length).mark, (S rs.length).ct⟩) hk hw hp hg (Plays.sealed (S rs.length) e (by omega)) (kok_seal e hwf) hk' hG
    refine ⟨_, _, .inr ⟨_, _, rfl, rfl⟩, upK_last _ _ _ _, ?_, r1, r2⟩
    rw [flat_append, List.length_append]
    simp [flat, Rc.bytes, recB_len]

theorem kp_seal (h : Kt w tag tg p a b c d ch rs S) (e : Int) (hwf : (Lit.int .i64 e).wf = true) (hl : (flat rs).length ≤ 30000000) :
    Calls Tryz.prog 47 #[.pointer (some ⟨p, 0, none⟩), .int .i64 e] w fun en w' => ∃ rs' S', en = .returned (if e < (S rs.length).ep then reply 5 (S rs.length).ep 0 0 0 0 nilS else reply 1 e 0 0 0 0 nilS) ∧ MoreK rs S rs' S' ∧ S' rs'.length = (if e < (S rs.length).ep then S rs.length else ⟨e, (S rs.length).mark, (S rs.length).ct⟩) ∧ (flat rs').length ≤ (flat rs).length + 24 ∧ Kt w' (tagTo tag w.heap.size tg) tg p a b c d ch rs' S' ∧ Only (fun b => tag b = tg) w w' := by
  obtain ⟨K, hk, hw, hp, hg⟩ := h
  refine (fseal_any 0 p a b c d ch _ _ _ (flat rs) K e w hk (Nat.zero_le _) hl).mono ?_
  rintro en w' ⟨K', rfl, hk', hG⟩
  by_cases he : e < (S rs.length).ep
  · rw [if_pos he, if_pos (.inl he)] at hk'
    obtain ⟨r1, r2⟩ := Kt.same hk hw hp hg hk' hG
    refine ⟨rs, S, rfl, .inl ⟨rfl, rfl⟩, by rw [if_pos he], by omega, ?_, r2⟩
    rw [← tagV_nil]
    exact r1 _ (nilS_own K')
  · rw [if_neg he] at hk'
    have hk2 : Ks 0 w' p a b c d ch e (S rs.length).mark (S rs.length).ct (flat rs ++ if e = (S rs.length).ep then [] else recB 1 [e] []) K' := by
      by_cases hq : e = (S rs.length).ep
      · rw [if_pos (.inr hq)] at hk'
        rw [if_pos hq, List.append_nil]; exact hk'
      · rw [if_neg (by rintro (h | h); exact he h; exact hq h)] at hk'
        rw [if_neg hq]; exact hk'
    obtain ⟨rs', S', r0, r1, r2, r3, r4⟩ := Kt.reach hk hw hp hg hwf he hk2 hG
    refine ⟨rs', S', rfl, r0, by rw [if_neg he]; exact r1, r2, ?_, r4⟩
    rw [← tagV_nil]
    exact r3 _ (nilS_own K')

theorem kp_trim (h : Kt w tag tg p a b c d ch rs S) (e m : Int) (hwf : (Lit.int .i64 e).wf = true) (hmf : (Lit.int .i64 m).wf = true) (hl : (flat rs).length ≤ 30000000) :
    Calls Tryz.prog 45 #[.pointer (some ⟨p, 0, none⟩), .int .i64 e, .int .i64 m] w fun en w' => ∃ rs' S', en = .returned (if e < (S rs.length).ep then reply 5 (S rs.length).ep 0 0 0 0 nilS else reply 1 0 (if (S rs.length).mark < m then m else (S rs.length).mark) 0 0 0 nilS) ∧ MoreK rs S rs' S' ∧ S' rs'.length = (if e < (S rs.length).ep then S rs.length else ⟨e, if (S rs.length).mark < m then m else (S rs.length).mark, (S rs.length).ct⟩) ∧ (flat rs').length ≤ (flat rs).length + 24 ∧ Kt w' (tagTo tag w.heap.size tg) tg p a b c d ch rs' S' ∧ Only (fun b => tag b = tg) w w' := by
  have hh := h
  obtain ⟨K, hk, hw, hp, hg⟩ := h
  by_cases he : e < (S rs.length).ep
  · refine (ftrim_old 0 p a b c d ch _ _ _ (flat rs) K e m w hk he).mono ?_
    rintro en w' ⟨rfl, _, hb⟩
    refine ⟨rs, S, by rw [if_pos he], .inl ⟨rfl, rfl⟩, by rw [if_pos he], by omega, ?_, Only.of_bl hb⟩
    exact hh.only (Only.of_bl (S := fun _ => False) hb) (fun _ _ e => e.elim) (fun b hb => tagTo_old _ _ _ _ hb)
  · refine (ftrim_any 0 p a b c d ch _ _ _ (flat rs) K e m w hk (Nat.zero_le _) hl he).mono ?_
    rintro en w' ⟨K', rfl, hk', hG⟩
    by_cases hm : (S rs.length).mark < m
    · rw [if_pos hm, if_pos hm] at hk'
      obtain ⟨r1, r2⟩ := Kt.step (s := ⟨e, m, (S rs.length).ct⟩) hk hw hp hg (Plays.trim (S rs.length) e m he hm) (kok_trim e m hwf hmf) hk' hG
      refine ⟨rs ++ [⟨2, [e, m], []⟩], _, by rw [if_neg he], .inr ⟨_, _, rfl, rfl⟩, by rw [if_neg he, if_pos hm]; exact upK_last _ _ _ _, ?_, ?_, r2⟩
      · rw [flat_append, List.length_append]
        simp [flat, Rc.bytes, recB_len]
      · rw [← tagV_nil]
        exact r1 _ (nilS_own K')
    · rw [if_neg hm, if_neg hm] at hk'
      obtain ⟨rs', S', r0, r1, r2, r3, r4⟩ := Kt.reach hk hw hp hg hwf he hk' hG
      refine ⟨rs', S', by rw [if_neg he], r0, by rw [if_neg he, if_neg hm]; exact r1, r2, ?_, r4⟩
      rw [← tagV_nil]
      exact r3 _ (nilS_own K')

theorem kp_read (h : Kt w tag tg p a b c d ch rs S) (e x : Int) (hwf : (Lit.int .i64 e).wf = true) (hl : (flat rs).length ≤ 30000000) (he : ¬ e < (S rs.length).ep) :
    Calls Tryz.prog 40 #[.pointer (some ⟨p, 0, none⟩), .int .i64 e, .int .i64 x] w fun en w' => ∃ v rs' S', en = .returned (reply (lookC a b c d ch (S rs.length).mark (S rs.length).ct x).1 0 (lookC a b c d ch (S rs.length).mark (S rs.length).ct x).2.1 (lookC a b c d ch (S rs.length).mark (S rs.length).ct x).2.2.kd (lookC a b c d ch (S rs.length).mark (S rs.length).ct x).2.2.cl (lookC a b c d ch (S rs.length).mark (S rs.length).ct x).2.2.ca v) ∧
      w'.ownsRow w.heap.size 5 1 v (lookC a b c d ch (S rs.length).mark (S rs.length).ct x).2.2.val.length ((lookC a b c d ch (S rs.length).mark (S rs.length).ct x).2.2.val.map B8) ∧ MoreK rs S rs' S' ∧ S' rs'.length = ⟨e, (S rs.length).mark, (S rs.length).ct⟩ ∧ (flat rs').length ≤ (flat rs).length + 24 ∧ Kt w' (tagV tag w.heap.size tg v) tg p a b c d ch rs' S' ∧ Only (fun b => tag b = tg) w w' := by
  obtain ⟨K, hk, hw, hp, hg⟩ := h
  refine (fread_new 0 p a b c d ch _ _ _ (flat rs) K e x w hk (Nat.zero_le _) hl (hw.vals _ (Nat.le_refl _)) he _ _ _ rfl).mono ?_
  rintro en w' ⟨K', v, rfl, hv, hk', hG, _, hd⟩
  obtain ⟨rs', S', r0, r1, r2, r3, r4⟩ := Kt.reach hk hw hp hg hwf he hk' hG
  exact ⟨v, rs', S', rfl, hv, r0, r1, r2, r3 v hd, r4⟩
end
end Go.Proofs.YtkgjpfamjedncaaGreat

namespace Go.Proofs.YtkgjpfamjedncaaGreat
open Go.RowKit Go.Maps

section
variable {w : World} {tag : Nat → Nat} {tg p : Nat} {a b c d ch : Int} {rs : List Rc} {S : Nat → St}
theorem kp_writeNot (h : Kt w tag tg p a b c d ch rs S) (e x kd cl ca : Int) (va : Option Addr) (vn vc : Nat) (hwf : (Lit.int .i64 e).wf = true) (hl : (flat rs).length ≤ 30000000) (hvn : vn ≤ 255) (he : ¬ e < (S rs.length).ep) (hc : isC kd vn = false) :
    Calls Tryz.prog 43 #[.pointer (some ⟨p, 0, none⟩), .int .i64 e, .int .i64 x, .agg #[.int .i64 kd, .int .i64 cl, .int .i64 ca, .slice va vn vc]] w fun en w' => ∃ rs' S', en = .returned (reply 6 0 0 0 0 0 nilS) ∧ MoreK rs S rs' S' ∧ S' rs'.length = ⟨e, (S rs.length).mark, (S rs.length).ct⟩ ∧ (flat rs').length ≤ (flat rs).length + 24 ∧ Kt w' (tagTo tag w.heap.size tg) tg p a b c d ch rs' S' ∧ Only (fun b => tag b = tg) w w' := by
  obtain ⟨K, hk, hw, hp, hg⟩ := h
  refine (fwrite_not 0 p a b c d ch _ _ _ (flat rs) K e x kd cl ca va vn vc w hk (Nat.zero_le _) hl (hw.vals _ (Nat.le_refl _)) hvn he _ _ _ rfl hc).mono ?_
  rintro en w' ⟨K', rfl, hk', hG⟩
  obtain ⟨rs', S', r0, r1, r2, r3, r4⟩ := Kt.reach hk hw hp hg hwf he hk' hG
  refine ⟨rs', S', rfl, r0, r1, r2, ?_, r4⟩
  rw [← tagV_nil]
  exact r3 _ (nilS_own K')
theorem kp_writeTold (h : Kt w tag tg p a b c d ch rs S) (e x kd cl ca : Int) (va : Option Addr) (vn vc : Nat) (hwf : (Lit.int .i64 e).wf = true) (hl : (flat rs).length ≤ 30000000) (he : ¬ e < (S rs.length).ep) (hc : isC kd vn = true) (hwh : (lookC a b c d ch (S rs.length).mark (S rs.length).ct x).1 ≠ 3) :
    Calls Tryz.prog 43 #[.pointer (some ⟨p, 0, none⟩), .int .i64 e, .int .i64 x, .agg #[.int .i64 kd, .int .i64 cl, .int .i64 ca, .slice va vn vc]] w fun en w' => ∃ v rs' S', en = .returned (reply (lookC a b c d ch (S rs.length).mark (S rs.length).ct x).1 0 (lookC a b c d ch (S rs.length).mark (S rs.length).ct x).2.1 (lookC a b c d ch (S rs.length).mark (S rs.length).ct x).2.2.kd (lookC a b c d ch (S rs.length).mark (S rs.length).ct x).2.2.cl (lookC a b c d ch (S rs.length).mark (S rs.length).ct x).2.2.ca v) ∧
      w'.ownsRow w.heap.size 5 1 v (lookC a b c d ch (S rs.length).mark (S rs.length).ct x).2.2.val.length ((lookC a b c d ch (S rs.length).mark (S rs.length).ct x).2.2.val.map B8) ∧ MoreK rs S rs' S' ∧ S' rs'.length = ⟨e, (S rs.length).mark, (S rs.length).ct⟩ ∧ (flat rs').length ≤ (flat rs).length + 24 ∧ Kt w' (tagV tag w.heap.size tg v) tg p a b c d ch rs' S' ∧ Only (fun b => tag b = tg) w w' := by
  obtain ⟨K, hk, hw, hp, hg⟩ := h
  have h8 := isC_len hc
  refine (fwrite_told 0 p a b c d ch _ _ _ (flat rs) K e x kd cl ca va vn vc w hk (Nat.zero_le _) hl (hw.vals _ (Nat.le_refl _)) (by omega) he _ _ _ rfl hwh hc).mono ?_
  rintro en w' ⟨K', v, rfl, hv, hk', hG, _, hd⟩
  obtain ⟨rs', S', r0, r1, r2, r3, r4⟩ := Kt.reach hk hw hp hg hwf he hk' hG
  exact ⟨v, rs', S', rfl, hv, r0, r1, r2, r3 v hd, r4⟩
theorem kp_writeNew (h : Kt w tag tg p a b c d ch rs S) (e x kd cl ca : Int) (v : Value) (ys : List Int) (i : Nat) (hwf : (Lit.int .i64 e).wf = true) (hxf : (Lit.int .i64 x).wf = true) (hkf : (Lit.int .i64 kd).wf = true) (hcf : (Lit.int .i64 cl).wf = true) (haf : (Lit.int .i64 ca).wf = true) (hl : (flat rs).length ≤ 30000000) (hv : Bs w v (ys.map B8)) (hvb : ∀ g, v.ownBlock = some g → g < w.heap.size ∧ tag g ≠ tg) (hys : Byt ys) (he : ¬ e < (S rs.length).ep) (hi : i < 16) (hloc : loc a b c d x = (ch, (i : Int), 0)) (hlook : lookC a b c d ch (S rs.length).mark (S rs.length).ct x = (3, 0, ⟨0, 0, 0, []⟩)) (hc : isC kd ys.length = true) :
    Calls Tryz.prog 43 #[.pointer (some ⟨p, 0, none⟩), .int .i64 e, .int .i64 x, .agg #[.int .i64 kd, .int .i64 cl, .int .i64 ca, v]] w fun en w' => ∃ rs' S', en = .returned (reply 1 0 0 0 0 0 nilS) ∧ MoreK rs S rs' S' ∧ S' rs'.length = ⟨e, (S rs.length).mark, fun j => if j = i then ⟨kd, cl, ca, ys⟩ else (S rs.length).ct j⟩ ∧ (flat rs').length ≤ (flat rs).length + 60 ∧ Kt w' (tagTo tag w.heap.size tg) tg p a b c d ch rs' S' ∧ Only (fun b => tag b = tg) w w' := by
  obtain ⟨K, hk, hw, hp, hg⟩ := h
  have h8 := isC_len hc
  refine (fwrite_empty 0 p a b c d ch _ _ _ (flat rs) K e x kd cl ca v ys i w hk (Nat.zero_le _) hl (hw.vals _ (Nat.le_refl _)) hv (by omega) (fun g e => ⟨(hvb g e).1, fun e' => (hvb g e).2 (hg g (.inl e')), fun e' => (hvb g e).2 (by rw [e']; exact hp)⟩) he hi hloc hlook hc).mono ?_
  rintro en w' ⟨K', rfl, hk', hG⟩
  obtain ⟨r1, r2⟩ := Kt.step (s := ⟨e, (S rs.length).mark, fun j => if j = i then ⟨kd, cl, ca, ys⟩ else (S rs.length).ct j⟩) hk hw hp hg (Plays.write (S rs.length) e x kd cl ca ys i he hi hloc hlook hc) (kok_write e x kd cl ca ys hwf hxf hkf hcf haf h8 hys) hk' hG
  refine ⟨rs ++ [⟨3, [e, x, kd, cl, ca], ys⟩], _, rfl, .inr ⟨_, _, rfl, rfl⟩, upK_last _ _ _ _, ?_, ?_, r2⟩
  · rw [flat_append, List.length_append]
    simp [flat, Rc.bytes, recB_len]
    omega
  · rw [← tagV_nil]
    exact r1 _ (nilS_own K')
end
end Go.Proofs.YtkgjpfamjedncaaGreat
