-- A call of a unit of the script, of whatever kind.
import Derived.Test.YtkgjpfamjedncaaGreatVotedStepNewKCellSeal
import Derived.Test.YtkgjpfamjedncaaGreatCellTrimCellRead
import Derived.Test.YtkgjpfamjedncaaGreatCellWriteM
namespace Go.Proofs.YtkgjpfamjedncaaGreat
open Go.RowKit Go.Maps
theorem celled_any (k : Int) (hk : k = 4 ∨ k = 5 ∨ k = 6 ∨ k = 7) (bw j q : Nat) (kl vl : Value) (nb m nn : Nat) (rs : List Rc) (S : Nat → St) (tag : Nat → Nat) (ka kb kc kd u ch : Int) (a b c q1 q2 q3 q4 : Int) (la : Option Addr) (ln lc : Nat) (ua : Option Addr) (un uc : Nat) (ss : List Int) (t1 t2 t3 : Int) (va : Option Addr) (vn vc : Nat) (w : World)
    (hB : Bt w tag bw kl vl nb w.heap.size) (hO : ObC w tag j q ka kb kc kd u ch rs S m nn) (hl : (flat rs).length + ss.length ≤ 29000000) (hnb : nb + 1 < 4000000) (hm : m ≤ 4000000) (hnn : nn + 1 < 4000000) (hbw : (Lit.int .i64 b).wf = true) (hcw : (Lit.int .i64 c).wf = true) (hw1 : (Lit.int .i64 t1).wf = true) (hw2 : (Lit.int .i64 t2).wf = true) (hw3 : (Lit.int .i64 t3).wf = true) (hss : Byt ss) :
    Calls Tryz.prog 14 #[.pointer (some ⟨bw, 0, none⟩), .agg (opR k a b c q1 q2 q3 q4 la ln lc ua un uc (strOf ss) t1 t2 t3 va vn vc), .pointer (some ⟨q, 0, none⟩)] w fun en w' => en = .returned (.bool true) ∧
      (∃ tag' rs' S', (∀ g, g < w.heap.size → tag' g = tag g) ∧ Bt w' tag' bw kl vl (nb + 2) w'.heap.size ∧ ObC w' tag' j q ka kb kc kd u ch rs' S' (m + 1) (nn + 1) ∧ rs'.length ≤ rs.length + 1 ∧ (flat rs').length ≤ (flat rs).length + 60) ∧ Only (fun g => tag g = 2 ∨ Mine j (tag g)) w w' := by
  rcases hk with rfl | rfl | rfl | rfl
  · exact cellSeal_any bw j q kl vl nb m nn rs S tag ka kb kc kd u ch a b c q1 q2 q3 q4 la ln lc ua un uc (strOf ss) t1 t2 t3 va vn vc w hB hO (by omega) hnb hm hnn hbw
  · exact cellWrite_any bw j q kl vl nb m nn rs S tag ka kb kc kd u ch a b c q1 q2 q3 q4 la ln lc ua un uc ss t1 t2 t3 va vn vc w hB hO hl hnb hm hnn hbw hcw hw1 hw2 hw3 hss
  · exact cellRead_any bw j q kl vl nb m nn rs S tag ka kb kc kd u ch a b c q1 q2 q3 q4 la ln lc ua un uc (strOf ss) t1 t2 t3 va vn vc w hB hO (by omega) hnb hm hnn hbw
  · exact cellTrim_any bw j q kl vl nb m nn rs S tag ka kb kc kd u ch a b c q1 q2 q3 q4 la ln lc ua un uc (strOf ss) t1 t2 t3 va vn vc w hB hO (by omega) hnb hm hnn hbw hcw

/-- A call on one unit keeps all the others. -/
theorem PsC.call {w W w' : World} {tag tag' : Nat → Nat} {bw nk nb' K jj : Nat} {kl : Value} {PK : Nat → Nat} (hW : Bl w W)
    (h2 : w.ownsRow 0 46 1 kl nk ((List.range nk).map fun j => .pointer (some ⟨PK j, 0, none⟩))) (h3 : ∀ b, kl.ownBlock = some b → tag b = 6)
    (h4 : ∀ j, j < nk → ∃ a b c d u ch rs S m nn, ObC w tag j (PK j) a b c d u ch rs S m nn ∧ m ≤ K + 1 ∧ nn ≤ K ∧ rs.length ≤ K ∧ (flat rs).length ≤ 60 * K)
    (o1 : ∀ b, b < W.heap.size → tag' b = tagTo tag w.heap.size 1 b) (k1 : Bt w' tag' bw kl (.slice none 0 0) nb' w'.heap.size) (O : Only (fun g => tagTo tag w.heap.size 1 g = 2 ∨ Mine jj (tagTo tag w.heap.size 1 g)) W w')
    (k2 : ∃ a b c d u ch rs S m nn, ObC w' tag' jj (PK jj) a b c d u ch rs S m nn ∧ m ≤ K + 1 + 1 ∧ nn ≤ K + 1 ∧ rs.length ≤ K + 1 ∧ (flat rs).length ≤ 60 * (K + 1)) :
    PsC w' tag' bw nk nb' (K + 1) ∧ (∀ b, b < w.heap.size → tag' b = tag b) ∧ Only (fun b => tag b ≠ 0) w w' := by
  have OW : Only (fun _ => False) w W := Only.of_bl hW
  have oldW : ∀ b, b < w.heap.size → tagTo tag w.heap.size 1 b = tag b := fun b hb => tagTo_old _ _ _ _ hb
  have lW := hW.lt
  have old' : ∀ b, b < w.heap.size → tag' b = tag b := fun b hb => by rw [o1 b (by omega), oldW b hb]
  have hT6 : ∀ b, b < w.heap.size → tag b = 6 → ¬ (tagTo tag w.heap.size 1 b = 2 ∨ Mine jj (tagTo tag w.heap.size 1 b)) := fun b hb e e' => by
    rw [oldW b hb, e] at e'
    rcases e' with e' | e'
    · omega
    · exact (mine_zero jj 6 e').2.1 rfl
  have hrow := O.owns (OW.owns h2 fun _ _ e => e) fun b hb => hT6 b (h2.lt b hb).2 (h3 b hb)
  refine ⟨⟨kl, PK, k1, hrow, fun b hb => by rw [old' b (h2.lt b hb).2]; exact h3 b hb, fun i hi => ?_⟩, old', ?_⟩
  · by_cases e : i = jj
    · subst e; exact k2
    · obtain ⟨a, b, c, d, u, ch, rs, S, m, nn, s1, s2, s3, s4, s5⟩ := h4 i hi
      refine ⟨a, b, c, d, u, ch, rs, S, m, nn, (s1.only (tag' := tagTo tag w.heap.size 1) OW (fun _ _ e => e.elim) oldW).only O (fun g _ e' => ?_) o1, by omega, by omega, by omega, by omega⟩
      rcases e' with e' | e'
      · rw [e']; exact (mine_small i).2.1
      · exact mine_ne jj i _ (Ne.symm e) e'
  · refine ⟨O.os.trans hW.os, O.tape.trans hW.tape, O.output.trans hW.output, by have := O.size; omega, fun x hx hn => ?_⟩
    rw [O.block x (by omega) fun e => hn ?_, hW.heap hx]
    rw [oldW x hx] at e
    rcases e with e | e
    · rw [e]; omega
    · exact (mine_zero jj _ e).1
end Go.Proofs.YtkgjpfamjedncaaGreat
