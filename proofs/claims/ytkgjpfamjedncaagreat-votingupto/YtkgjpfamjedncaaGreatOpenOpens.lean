-- Cells are opened from an image.
-- OpenCells.
import Derived.Test.YtkgjpfamjedncaaGreatImgOpen
namespace Go.Proofs.YtkgjpfamjedncaaGreat
open Go.RowKit
attribute [local go_sem ↓] Go.wp_at_zero Go.wp_at_succ

def no : Ct := ⟨0, 0, 0, []⟩
/-- Cells that nothing was done with. -/
def St.first : St := ⟨0, 0, fun _ => no⟩

/-- The states that the calls of records go through. -/
structure Way (a b c d ch : Int) (rs : List Rc) (S : Nat → St) : Prop where
  zero : S 0 = St.first
  step : ∀ j, (h : j < rs.length) → Plays a b c d ch (S j) rs[j] (S (j + 1))
  ok : ∀ r ∈ rs, r.Ok shs

theorem Way.vals {a b c d ch : Int} {rs : List Rc} {S : Nat → St} (h : Way a b c d ch rs S) : ∀ j, j ≤ rs.length → ∀ i, i < 16 → ((S j).ct i).val.length ≤ 255 := by
  intro j
  induction j with
  | zero => intro _ i _; rw [h.zero]; simp [St.first, no]
  | succ j ih =>
    intro hj i hi
    have hs := h.step j (by omega)
    have ih := ih (by omega) i hi
    generalize S (j + 1) = s' at hs ⊢
    generalize rs[j] = r at hs
    cases hs with
    | sealed => exact ih
    | trim => exact ih
    | write e x kd cl ca ys i' _ _ _ _ hc =>
      simp only
      split
      · have := isC_len hc; simp; omega
      · exact ih

theorem zero68 (i : Nat) (h : i < 72) : Tryz.zeroCells122[i]? = some (if i = 71 then .slice none 0 0 else if i < 7 then .int .i64 0 else if (i - 7) % 4 = 3 then .slice none 0 0 else .int .i64 0) := by
  have e : Tryz.zeroCells122.toList = (List.range 72).map (fun i => if i = 71 then Value.slice none 0 0 else if i < 7 then .int .i64 0 else if (i - 7) % 4 = 3 then .slice none 0 0 else .int .i64 0) := by kernel_rfl
  rw [← Array.getElem?_toList, e, List.getElem?_map, List.getElem?_range h]; rfl

theorem Ks.fresh (a b c d ch : Int) : ∃ K : Nat → Value, ∀ (base : Nat) (w : World) (p : Nat), w.heap[p]? = some (.cells (((((Tryz.zeroCells122.setIfInBounds 0 (.int .i64 a)).setIfInBounds 1 (.int .i64 b)).setIfInBounds 2 (.int .i64 c)).setIfInBounds 3 (.int .i64 d)).setIfInBounds 4 (.int .i64 ch)) 122 (0, 0)) → Ks base w p a b c d ch 0 0 (fun _ => no) [] K := by
  have hz : ∀ i, 5 ≤ i → (((((Tryz.zeroCells122.setIfInBounds 0 (.int .i64 a)).setIfInBounds 1 (.int .i64 b)).setIfInBounds 2 (.int .i64 c)).setIfInBounds 3 (.int .i64 d)).setIfInBounds 4 (.int .i64 ch))[i]? = Tryz.zeroCells122[i]? := by
    intro i h5
    rw [Array.getElem?_setIfInBounds_ne (by omega), Array.getElem?_setIfInBounds_ne (by omega), Array.getElem?_setIfInBounds_ne (by omega), Array.getElem?_setIfInBounds_ne (by omega), Array.getElem?_setIfInBounds_ne (by omega)]
  have hsz : (((((Tryz.zeroCells122.setIfInBounds 0 (.int .i64 a)).setIfInBounds 1 (.int .i64 b)).setIfInBounds 2 (.int .i64 c)).setIfInBounds 3 (.int .i64 d)).setIfInBounds 4 (.int .i64 ch)).size = 72 := by simp only [Array.size_setIfInBounds]; rfl
  have e0 : (((((Tryz.zeroCells122.setIfInBounds 0 (.int .i64 a)).setIfInBounds 1 (.int .i64 b)).setIfInBounds 2 (.int .i64 c)).setIfInBounds 3 (.int .i64 d)).setIfInBounds 4 (.int .i64 ch))[0]? = some (.int .i64 a) := rfl
  have e1 : (((((Tryz.zeroCells122.setIfInBounds 0 (.int .i64 a)).setIfInBounds 1 (.int .i64 b)).setIfInBounds 2 (.int .i64 c)).setIfInBounds 3 (.int .i64 d)).setIfInBounds 4 (.int .i64 ch))[1]? = some (.int .i64 b) := rfl
  have e2 : (((((Tryz.zeroCells122.setIfInBounds 0 (.int .i64 a)).setIfInBounds 1 (.int .i64 b)).setIfInBounds 2 (.int .i64 c)).setIfInBounds 3 (.int .i64 d)).setIfInBounds 4 (.int .i64 ch))[2]? = some (.int .i64 c) := rfl
  have e3 : (((((Tryz.zeroCells122.setIfInBounds 0 (.int .i64 a)).setIfInBounds 1 (.int .i64 b)).setIfInBounds 2 (.int .i64 c)).setIfInBounds 3 (.int .i64 d)).setIfInBounds 4 (.int .i64 ch))[3]? = some (.int .i64 d) := rfl
  have e4 : (((((Tryz.zeroCells122.setIfInBounds 0 (.int .i64 a)).setIfInBounds 1 (.int .i64 b)).setIfInBounds 2 (.int .i64 c)).setIfInBounds 3 (.int .i64 d)).setIfInBounds 4 (.int .i64 ch))[4]? = some (.int .i64 ch) := rfl
  generalize (((((Tryz.zeroCells122.setIfInBounds 0 (.int .i64 a)).setIfInBounds 1 (.int .i64 b)).setIfInBounds 2 (.int .i64 c)).setIfInBounds 3 (.int .i64 d)).setIfInBounds 4 (.int .i64 ch)) = arr at *
  refine ⟨fun i => (arr[i]?).getD undef, fun base w p h => ?_⟩
  have big : ∀ i, 5 ≤ i → i < 72 → (arr[i]?).getD undef = (if i = 71 then .slice none 0 0 else if i < 7 then .int .i64 0 else if (i - 7) % 4 = 3 then .slice none 0 0 else .int .i64 0) := by
    intro i h5 hi
    rw [hz i h5, zero68 i hi]; rfl
  have k71 : (arr[71]?).getD undef = .slice none 0 0 := by rw [big 71 (by decide) (by decide)]; rfl
  have kv : ∀ i, i < 16 → (arr[10 + 4 * i]?).getD undef = .slice none 0 0 := by
    intro i hi
    rw [big _ (by omega) (by omega), if_neg (by omega), if_neg (by omega), if_pos (by omega)]
  refine ⟨⟨_, 122, h, .inl rfl, fun i hi => ?_⟩, by simp only [e0]; rfl, by simp only [e1]; rfl, by simp only [e2]; rfl, by simp only [e3]; rfl, by simp only [e4]; rfl, ?_, ?_, ?_, fun i hi => ?_, fun i hi => ?_, fun i hi => ?_, fun i hi => ?_, fun i hi g hg => ?_⟩
  · simp only [Array.getElem?_eq_getElem (show i < arr.size by omega), Option.getD_some]
  · rw [big 5 (by decide) (by decide)]; rfl
  · rw [big 6 (by decide) (by decide)]; rfl
  · simp only [k71]; exact World.ownsRow_nil _ _ _ _
  · rw [big _ (by omega) (by omega), if_neg (by omega), if_neg (by omega), if_neg (by omega)]; rfl
  · rw [big _ (by omega) (by omega), if_neg (by omega), if_neg (by omega), if_neg (by omega)]; rfl
  · rw [big _ (by omega) (by omega), if_neg (by omega), if_neg (by omega), if_neg (by omega)]; rfl
  · simp only [kv i hi]; exact World.ownsRow_nil _ _ _ _
  · simp only [kv i hi] at hg; simp [Value.ownBlock] at hg

theorem Ks.base {base base' : Nat} {w : World} {p : Nat} {a b c d ch ep mk : Int} {ct : Nat → Ct} {img : List Int} {K : Nat → Value} (h : Ks base w p a b c d ch ep mk ct img K) (hb : base' ≤ base) : Ks base' w p a b c d ch ep mk ct img K :=
  ⟨h.at', h.k0, h.k1, h.k2, h.k3, h.k4, h.k5, h.k6, ownsRow_base h.own fun g e => Nat.le_trans hb (h.own.lt g e).1, h.kd, h.cl, h.ca, fun i hi => ownsRow_base (h.val i hi) fun g e => Nat.le_trans hb ((h.val i hi).lt g e).1, h.apart⟩

/-- What cells are while the records are done again. -/
structure Jc (p : Nat) (a b c d ch : Int) (rs : List Rc) (S : Nat → St) (w2 : World) (j : Nat) (W : World) : Prop where
  ks : ∃ K, Ks w2.heap.size W p a b c d ch (S j).ep (S j).mark (S j).ct (flat (rs.take j)) K ∧ (j = 0 → ∀ B, Ks B W p a b c d ch (S j).ep (S j).mark (S j).ct (flat (rs.take j)) K)
  only : Only (fun b => b = p) w2 W
  at2 : ∃ K, At w2 p K

theorem doing {p : Nat} {a b c d ch : Int} {rs : List Rc} {S : Nat → St} (hw : Way a b c d ch rs S) (hl : (flat rs).length ≤ 30000000) (base : Nat) : Doing 91 (.pointer (some ⟨p, 0, none⟩)) p 71 base rs (Jc p a b c d ch rs S) where
  img := by
    rintro w2 W j ⟨⟨K, hK, _⟩, _, _⟩ hj
    exact ⟨_, _, hK.at'.cell 71 (by decide), hK.own⟩
  blk := by
    rintro w2 W j ⟨_, _, ⟨K, cs, t, h1, h2, _⟩⟩
    exact ⟨cs, t, h1, by rcases h2 with rfl | rfl <;> decide⟩
  only := fun h => h.only
  bl := fun ⟨⟨K, hK, hz⟩, h2, h3⟩ hb => ⟨⟨K, hK.bl hb, fun e B => (hz e B).bl hb⟩, h2.trans (Only.of_bl hb), h3⟩
  step := by
    rintro w2 W j nv vv h ⟨⟨K, hK, _⟩, hO, hA⟩ hn hv hvb
    have hlj : (flat (rs.take j)).length ≤ 30000000 := by have := off_le rs j h; unfold off at this; omega
    refine (again_any w2.heap.size p base a b c d ch (S j) (S (j + 1)) rs[j] _ K nv vv W hK hO.size hlj (hw.vals j (by omega)) (hw.step j h) hn hv (fun g e e' => ?_)).mono ?_
    · have := hvb g e; have := (hK.own.lt g e').1; omega
    rintro e W' ⟨K', rfl, hK', hO'⟩
    refine ⟨rfl, ⟨⟨K', ?_, fun e => absurd e (by omega)⟩, ?_, hA⟩, _, hO', ?_⟩
    · rw [List.take_succ_eq_append_getElem h, flat_append]; simpa [flat] using hK'
    · refine ⟨hO'.os.trans hO.os, hO'.tape.trans hO.tape, hO'.output.trans hO.output, Nat.le_trans hO.size hO'.size, fun i hi hn' => ?_⟩
      rw [hO'.block i (Nat.lt_of_lt_of_le hi hO.size) (fun e => ?_), hO.block i hi hn']
      rcases e with e | e
      · exact hn' e
      · have := (hK.own.lt i e).1; omega
    · rintro x cs f hx (e | e)
      · obtain ⟨arr, t, h1, h2, _⟩ := hK.at'
        subst e
        rw [h1] at hx
        simp only [Option.some.injEq, Obj.cells.injEq] at hx
        rcases h2 with rfl | rfl <;> exact absurd hx.2.1 (by decide)
      · exact own_ne_block hK.own hx (by decide) e
end Go.Proofs.YtkgjpfamjedncaaGreat

namespace Go.Proofs.YtkgjpfamjedncaaGreat
open Go.RowKit
attribute [local go_sem ↓] Go.wp_at_zero Go.wp_at_succ

/-- The bytes of an image, cut at n, lie in a slice. -/
structure Cut (w : World) (ad : Option Addr) (n c : Nat) (rs : List Rc) : Prop where
  n1 : n ≤ (flat rs).length
  nc : n ≤ c
  c1 : c ≤ 9223372036854775807
  lies : ∃ b o, (0 < n → ad = some ⟨b, o, none⟩ ∧ b < w.heap.size) ∧ ∀ j d, j < n → (flat rs)[j]? = some d → w.cell? ⟨b, o + j, none⟩ = some (B8 d)
theorem Cut.bl {w w' : World} {ad : Option Addr} {n c : Nat} {rs : List Rc} (h : Cut w ad n c rs) (hb : Bl w w') : Cut w' ad n c rs := by
  obtain ⟨h1, h2, h3, b, o, h4, h5⟩ := h
  refine ⟨h1, h2, h3, b, o, fun hn => ⟨(h4 hn).1, Nat.lt_of_lt_of_le (h4 hn).2 hb.lt⟩, fun j d hj hd => ?_⟩
  rw [hb.cell (h4 (by omega)).2]; exact h5 j d hj hd

theorem Bl.of_only {w w2 w' : World} {p : Nat} (h : Bl w w2) (ho : Only (fun b => b = p) w2 w') (hp : w.heap.size ≤ p) : Bl w w' := h.trans_only ho (fun n e => by omega)

set_option maxRecDepth 100000 in
set_option maxHeartbeats 4000000 in
theorem open_any (a b c d u ch : Int) (ad : Option Addr) (n cc : Nat) (rs : List Rc) (S : Nat → St) (w : World) (hch : cha a b c d u = (ch, 0)) (hw : Way a b c d ch rs S) (hl : (flat rs).length ≤ 30000000) (hd : Cut w ad n cc rs) :
    Calls Tryz.prog 67 #[.agg #[.int .i64 a, .int .i64 b, .int .i64 c, .int .i64 d], .int .i64 u, .slice ad n cc] w fun e w' => ∃ k p K, e = .returned (.tuple #[.pointer (some ⟨p, 0, none⟩), .int .i64 0]) ∧ k ≤ rs.length ∧ off rs k ≤ n ∧ (∀ h : k < rs.length, n < off rs k + rs[k].bytes.length) ∧ w.heap.size ≤ p ∧ Ks w.heap.size w' p a b c d ch (S k).ep (S k).mark (S k).ct (flat (rs.take k)) K ∧ (k = 0 → ∀ B, Ks B w' p a b c d ch (S k).ep (S k).mark (S k).ct (flat (rs.take k)) K) ∧ Bl w w' := by
  have bA := hid ((Bl.refl w).alloc (.cells #[.int .i64 a, .int .i64 b, .int .i64 c, .int .i64 d] 38))
  have Hch : Hid (∀ W, Calls Tryz.prog 88 #[.agg #[.int .i64 a, .int .i64 b, .int .i64 c, .int .i64 d], .int .i64 u] W fun e w' => e = .returned (.tuple #[.int .i64 ch, .int .i64 0]) ∧ Bl W w') := fun W => by
    have := chain_any a b c d u W
    rw [hch] at this
    exact this
  have Hw := hid hw
  have Hd := hid hd
  clear hch hw hd
  go_enter Tryz.func67, Tryz.ntmps67
  go_wp2_with fail
  refine (Hch.out _).mono ?_
  rintro e w1 ⟨rfl, hb1⟩
  have g0 := (hb1.cell (o := 0) (by simp)).trans (cell_of_row _ _ 0 _ 38 (0, 0) (heap_alloc_new w _))
  have g1 := (hb1.cell (o := 1) (by simp)).trans (cell_of_row _ _ 1 _ 38 (0, 0) (heap_alloc_new w _))
  have g2 := (hb1.cell (o := 2) (by simp)).trans (cell_of_row _ _ 2 _ 38 (0, 0) (heap_alloc_new w _))
  have g3 := (hb1.cell (o := 3) (by simp)).trans (cell_of_row _ _ 3 _ 38 (0, 0) (heap_alloc_new w _))
  simp at g0 g1 g2 g3
  have HB1 := hid (bA.out.trans hb1)
  clear hb1
  have HF := hid (heap_alloc_new w1 (.cells (((((Tryz.zeroCells122.setIfInBounds 0 (.int .i64 a)).setIfInBounds 1 (.int .i64 b)).setIfInBounds 2 (.int .i64 c)).setIfInBounds 3 (.int .i64 d)).setIfInBounds 4 (.int .i64 ch)) 122))
  have bB := hid ((Bl.refl w1).alloc (.cells (((((Tryz.zeroCells122.setIfInBounds 0 (.int .i64 a)).setIfInBounds 1 (.int .i64 b)).setIfInBounds 2 (.int .i64 c)).setIfInBounds 3 (.int .i64 d)).setIfInBounds 4 (.int .i64 ch)) 122))
  obtain ⟨K0, HK0⟩ := Ks.fresh a b c d ch
  have HK0 := hid HK0
  go_wp2
  have HO : Hid (∀ W bs, w1.heap.size < W.heap.size → Bl w W → W.heap[w1.heap.size]? = some (.cells (((((Tryz.zeroCells122.setIfInBounds 0 (.int .i64 a)).setIfInBounds 1 (.int .i64 b)).setIfInBounds 2 (.int .i64 c)).setIfInBounds 3 (.int .i64 d)).setIfInBounds 4 (.int .i64 ch)) 122 (0, 0)) → Shapes W bs 0 shs → Calls Tryz.prog 89 #[.pointer (some ⟨w1.heap.size, 71, none⟩), .slice ad n cc, .slice (some ⟨bs, 0, none⟩) 3 3, .func (.func 91) #[.pointer (some ⟨w1.heap.size, 0, none⟩)] #[]] W fun e w' => ∃ k K, e = .returned (.bool true) ∧ k ≤ rs.length ∧ off rs k ≤ n ∧ (∀ h : k < rs.length, n < off rs k + rs[k].bytes.length) ∧ Ks w.heap.size w' w1.heap.size a b c d ch (S k).ep (S k).mark (S k).ct (flat (rs.take k)) K ∧ (k = 0 → ∀ B, Ks B w' w1.heap.size a b c d ch (S k).ep (S k).mark (S k).ct (flat (rs.take k)) K) ∧ Bl w w') := by
    intro W bs hlt hW hh hsh
    obtain ⟨h1, h2, h3, b', o', h4, h5⟩ := Hd.out.bl hW
    refine (imgOpen_any (.pointer (some ⟨w1.heap.size, 0, none⟩)) w1.heap.size 71 ad b' o' cc n bs 0 3 rs shs W _ (doing (p := w1.heap.size) Hw.out hl W.heap.size) (fun w2 hb2 => ?_) h1 h2 (Nat.le_trans h1 hl) h3 h4 h5 hsh (by decide) Hw.out.ok).mono ?_
    · have hh2 := (hb2.heap hlt).trans hh
      have hk := HK0.out w2.heap.size w2 w1.heap.size hh2
      refine ⟨⟨K0, ?_, ?_⟩, Only.refl _ _, ⟨K0, hk.at'⟩⟩
      · rw [Hw.out.zero]
        exact hk
      · intro _ B
        rw [Hw.out.zero]
        exact HK0.out B w2 w1.heap.size hh2
    · rintro e w' ⟨k, w2, rfl, r1, r2, r3, hb2, ⟨K, hK, hz⟩, hO, _⟩
      exact ⟨k, K, rfl, r1, r2, r3, hK.base (Nat.le_trans hW.lt hb2.lt), hz, (hW.trans hb2).of_only hO HB1.out.lt⟩
  have HSh : Hid (∀ W, Bl (w1.alloc (.cells (((((Tryz.zeroCells122.setIfInBounds 0 (.int .i64 a)).setIfInBounds 1 (.int .i64 b)).setIfInBounds 2 (.int .i64 c)).setIfInBounds 3 (.int .i64 d)).setIfInBounds 4 (.int .i64 ch)) 122)) W → W.heap.size = w1.heap.size + 1 → Calls Tryz.prog 90 #[] W fun e w3 => e = .returned (.slice (some ⟨w1.heap.size + 1, 0, none⟩) 3 3) ∧ Calls Tryz.prog 89 #[.pointer (some ⟨w1.heap.size, 71, none⟩), .slice ad n cc, .slice (some ⟨w1.heap.size + 1, 0, none⟩) 3 3, .func (.func 91) #[.pointer (some ⟨w1.heap.size, 0, none⟩)] #[]] w3 fun e w' => ∃ k K, e = .returned (.bool true) ∧ k ≤ rs.length ∧ off rs k ≤ n ∧ (∀ h : k < rs.length, n < off rs k + rs[k].bytes.length) ∧ Ks w.heap.size w' w1.heap.size a b c d ch (S k).ep (S k).mark (S k).ct (flat (rs.take k)) K ∧ (k = 0 → ∀ B, Ks B w' w1.heap.size a b c d ch (S k).ep (S k).mark (S k).ct (flat (rs.take k)) K) ∧ Bl w w') := by
    intro W hW hsz
    refine (shapes_any W).mono ?_
    rw [hsz]
    rintro e w3 ⟨rfl, hs3, hb3⟩
    have hlt : w1.heap.size < W.heap.size := by omega
    exact ⟨rfl, HO.out _ _ (Nat.lt_of_lt_of_le hlt hb3.lt) (((HB1.out.trans bB.out).trans hW).trans hb3) ((hb3.heap hlt).trans ((hW.heap (by simp)).trans HF.out)) hs3⟩
  clear HO
  go_region_with (first
    | (go_at_call 90; refine (HSh.out _ (by exact (Bl.refl _).drewN _) (by simp)).mono ?_; rintro e w3 ⟨rfl, hs3⟩; have HS3 := hid hs3; clear hs3)
    | (go_at_call 89; refine HS3.out.mono ?_; rintro e w4 ⟨k, K, rfl, r1, r2, r3, r4, r6, r5⟩; have R6 := hid r6; have R1 := hid r1; have R2 := hid r2; have R3 := hid r3; have R4 := hid r4; have R5 := hid r5; clear r1 r2 r3 r4 r5 r6))
  all_goals
    go_wp2
    go_ret2
    exact ⟨k, _, K, rfl, R1.out, R2.out, R3.out, HB1.out.lt, R4.out, R6.out, R5.out⟩
end Go.Proofs.YtkgjpfamjedncaaGreat
