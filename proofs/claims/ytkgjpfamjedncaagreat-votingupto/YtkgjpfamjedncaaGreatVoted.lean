-- A call of a voter of the script, of whatever kind.
import Derived.Test.YtkgjpfamjedncaaGreatNewV
import Derived.Test.YtkgjpfamjedncaaGreatHalf
namespace Go.Proofs.YtkgjpfamjedncaaGreat
open Go.RowKit Go.Maps
attribute [local go_sem ↓] Go.wp_at_zero Go.wp_at_succ

set_option maxRecDepth 100000 in
set_option maxHeartbeats 4000000 in
theorem votedHalf_any (bw j q : Nat) (m nn : Nat) (rs : List Rc) (S : Nat → Int → Ep) (tag : Nat → Nat) (a b c q1 q2 q3 q4 : Int) (la : Option Addr) (ln lc : Nat) (ua : Option Addr) (un uc : Nat) (s : ByteArray) (t1 t2 t3 : Int) (va : Option Addr) (vn vc : Nat) (w : World)
    (hO : Ob 0 w tag j q rs S m nn) (hl : (flat rs).length ≤ 29000000) (hm : m ≤ 4000000) (hn : rs.length ≤ 29000000) (hbw : (Lit.int .i64 b).wf = true) (hc : -9223372036854775808 ≤ c ∧ c ≤ 9223372036854775807) :
    Calls Tryz.prog 15 #[.pointer (some ⟨bw, 0, none⟩), .agg (opR 14 a b c q1 q2 q3 q4 la ln lc ua un uc s t1 t2 t3 va vn vc), .pointer (some ⟨q, 0, none⟩)] w fun en w' => en = .returned (.bool true) ∧ Bl w w' := by
  have bA := (Bl.refl w).alloc (.cells (opR 14 a b c q1 q2 q3 q4 la ln lc ua un uc s t1 t2 t3 va vn vc) 44)
  have HH := hid (half_any j q m nn rs S tag a b c q1 q2 q3 q4 la ln lc ua un uc s t1 t2 t3 va vn vc _ (hO.bl bA) hl hm hn hbw hc)
  have HbA := hid bA
  clear hO bA
  unfold opR at HH HbA ⊢
  go_enter Tryz.func15, Tryz.ntmps15
  go_wp2_with fail
  refine HH.out.mono ?_
  rintro en w1 ⟨rfl, hb⟩
  have HB1 := hid (HbA.out.trans hb)
  clear HH hb HbA
  go_wp2
  go_ret
  exact ⟨rfl, HB1.out⟩

theorem voted_any (kd : Int) (hkd : kd = 10 ∨ kd = 11 ∨ kd = 12 ∨ kd = 14) (bw j q : Nat) (kl vl : Value) (nb m nn : Nat) (rs : List Rc) (S : Nat → Int → Ep) (tag : Nat → Nat) (a b c q1 q2 q3 q4 : Int) (la : Option Addr) (ln lc : Nat) (ua : Option Addr) (un uc : Nat) (ss : List Int) (t1 t2 t3 : Int) (va : Option Addr) (vn vc : Nat) (w : World)
    (hB : Bt w tag bw kl vl nb w.heap.size) (hO : Ob 0 w tag j q rs S m nn) (hl : (flat rs).length + ss.length ≤ 29000000) (hnb : nb + 1 < 4000000) (hm : m ≤ 4000000) (hnn : nn + 1 < 4000000) (hn : rs.length ≤ 29000000) (hb : -9223372036854775808 ≤ b ∧ b ≤ 9223372036854775807) (hc : -9223372036854775808 ≤ c ∧ c ≤ 9223372036854775807) (hss : Byt ss) :
    Calls Tryz.prog 15 #[.pointer (some ⟨bw, 0, none⟩), .agg (opR kd a b c q1 q2 q3 q4 la ln lc ua un uc (strOf ss) t1 t2 t3 va vn vc), .pointer (some ⟨q, 0, none⟩)] w fun en w' => en = .returned (.bool true) ∧
      (∃ tag' rs' S' m' nn' nb', (∀ b, b < w.heap.size → tag' b = tag b) ∧ Bt w' tag' bw kl vl nb' w'.heap.size ∧ Ob 0 w' tag' j q rs' S' m' nn' ∧ m' ≤ m + 1 ∧ nn' ≤ nn + 1 ∧ nb' ≤ nb + 2 ∧ rs'.length ≤ rs.length + 1 ∧ (flat rs').length ≤ (flat rs).length + 24 + ss.length) ∧ Only (fun b => tag b = 2 ∨ Mine j (tag b)) w w' := by
  have hbw : (Lit.int .i64 b).wf = true := Go.WalkArith.wf_i64 (by omega)
  have hcw : (Lit.int .i64 c).wf = true := Go.WalkArith.wf_i64 (by omega)
  rcases hkd with rfl | rfl | rfl | rfl
  · refine (votedPrep_any bw j q kl vl nb m nn rs S tag a b c q1 q2 q3 q4 la ln lc ua un uc (strOf ss) t1 t2 t3 va vn vc w hB hO (by omega) hnb hm hnn (by omega) hbw hcw).mono ?_
    rintro en w' ⟨rfl, ⟨tag', rs', S', h1, h2, h3, h4, h5⟩, h6⟩
    exact ⟨rfl, ⟨tag', rs', S', _, _, _, h1, h2, h3, by omega, by omega, by omega, h4, by omega⟩, h6⟩
  · refine (votedAcc_any bw j q kl vl nb m nn rs S tag a b c q1 q2 q3 q4 la ln lc ua un uc ss t1 t2 t3 va vn vc w hB hO hl hnb hm hnn (by omega) hbw hcw hss).mono ?_
    rintro en w' ⟨rfl, ⟨tag', rs', S', h1, h2, h3, h4, h5⟩, h6⟩
    exact ⟨rfl, ⟨tag', rs', S', _, _, _, h1, h2, h3, by omega, by omega, by omega, h4, h5⟩, h6⟩
  · refine (votedAnew_any bw j q kl vl nb m nn rs S tag a b c q1 q2 q3 q4 la ln lc ua un uc (strOf ss) t1 t2 t3 va vn vc w hB hO (by omega) (by omega)).mono ?_
    rintro en w' ⟨rfl, ⟨tag', h1, h2, h3⟩, h6⟩
    exact ⟨rfl, ⟨tag', rs, S, _, _, _, h1, h2, h3, by omega, by omega, by omega, by omega, by omega⟩, h6⟩
  · refine (votedHalf_any bw j q m nn rs S tag a b c q1 q2 q3 q4 la ln lc ua un uc (strOf ss) t1 t2 t3 va vn vc w hO (by omega) hm hn hbw hc).mono ?_
    rintro en w' ⟨rfl, hbl⟩
    have O : Only (fun _ => False) w w' := Only.of_bl hbl
    exact ⟨rfl, ⟨tag, rs, S, m, nn, nb, fun _ _ => rfl, (hB.only O (fun _ _ e => e.elim) (fun _ _ => rfl) (Nat.le_refl _)).mono hbl.lt, hO.bl hbl, by omega, by omega, by omega, by omega, by omega⟩, Only.of_bl hbl⟩

/-- The voters that the script has made, and the book, behind K steps with T bytes. -/
structure Ps (w : World) (tag : Nat → Nat) (bw nv nb K T : Nat) : Prop where
  ex : ∃ (vl : Value) (PV : Nat → Nat), Bt w tag bw (.slice none 0 0) vl nb w.heap.size ∧ w.ownsRow 0 51 1 vl nv ((List.range nv).map fun j => .pointer (some ⟨PV j, 0, none⟩)) ∧ (∀ b, vl.ownBlock = some b → tag b = 6) ∧
    ∀ j, j < nv → ∃ rs S m nn, Ob 0 w tag j (PV j) rs S m nn ∧ m ≤ K + 1 ∧ nn ≤ K ∧ rs.length ≤ K ∧ (flat rs).length ≤ 24 * K + T
theorem mine_ne (i j t : Nat) (h : i ≠ j) (hi : Mine i t) : ¬ Mine j t := by
  unfold Mine tP tR tV tD at *
  omega
theorem mine_zero (j t : Nat) (h : Mine j t) : t ≠ 0 ∧ t ≠ 6 ∧ t ≠ 2 := by
  unfold Mine tP tR tV tD at h
  omega
theorem Ps.mono {w : World} {tag : Nat → Nat} {bw nv nb K T K' T' : Nat} (h : Ps w tag bw nv nb K T) (hK : K ≤ K') (hT : T ≤ T') : Ps w tag bw nv nb K' T' := by
  obtain ⟨vl, PV, h1, h2, h3, h4⟩ := h
  refine ⟨vl, PV, h1, h2, h3, fun j hj => ?_⟩
  obtain ⟨rs, S, m, nn, k1, k2, k3, k4, k5⟩ := h4 j hj
  exact ⟨rs, S, m, nn, k1, by omega, by omega, by omega, by omega⟩
theorem Ps.bl {w w' : World} {tag : Nat → Nat} {bw nv nb K T : Nat} (h : Ps w tag bw nv nb K T) (hb : Bl w w') : Ps w' tag bw nv nb K T := by
  obtain ⟨vl, PV, h1, h2, h3, h4⟩ := h
  have O : Only (fun _ => False) w w' := Only.of_bl hb
  refine ⟨vl, PV, (h1.only O (fun _ _ e => e.elim) (fun _ _ => rfl) (Nat.le_refl _)).mono hb.lt, O.owns h2 fun _ _ e => e, h3, fun j hj => ?_⟩
  obtain ⟨rs, S, m, nn, k1, k⟩ := h4 j hj
  exact ⟨rs, S, m, nn, k1.bl hb, k⟩
end Go.Proofs.YtkgjpfamjedncaaGreat
