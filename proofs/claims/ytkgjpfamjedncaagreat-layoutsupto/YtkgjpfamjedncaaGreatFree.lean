/-
  A step of the kinds Locate and Next.
-/
import Derived.Test.YtkgjpfamjedncaaGreatLooks
import Derived.Test.YtkgjpfamjedncaaGreatLocate
namespace Go.Proofs.YtkgjpfamjedncaaGreat
open Go.RowKit

set_option maxRecDepth 100000 in
set_option maxHeartbeats 1000000 in
theorem freeLocate_any (bw : Nat) (a b c q1 q2 q3 q4 : Int) (la : Option Addr) (ln lc : Nat) (ua : Option Addr) (un uc : Nat) (s : ByteArray) (t1 t2 t3 : Int) (va : Option Addr) (vn vc : Nat) (w : World) :
    Calls Tryz.prog 10 #[.pointer (some ⟨bw, 0, none⟩), .agg #[.int .i64 1, .int .i64 a, .int .i64 b, .int .i64 c, .int .i64 q1, .int .i64 q2, .int .i64 q3, .int .i64 q4, .slice la ln lc, .slice ua un uc, .string s, .int .i64 t1, .int .i64 t2, .int .i64 t3, .slice va vn vc]] w fun e w' => e = .returned (.bool true) ∧ Bl w w' := by
  obtain ⟨r, hr⟩ : ∃ r, Hid (loc q1 q2 q3 q4 a = r) := ⟨_, hid rfl⟩
  go_enter Tryz.func10, Tryz.ntmps10
  go_wp2_with fail
  refine (Locate_any q1 q2 q3 q4 a _).mono ?_
  rw [hr.out]
  rintro e w1 ⟨rfl, b1⟩
  unfold tup
  have z1 := b1.cell (b := w.heap.size) (o := 1) (by simp)
  have z4 := b1.cell (b := w.heap.size) (o := 4) (by simp)
  have z5 := b1.cell (b := w.heap.size) (o := 5) (by simp)
  have z6 := b1.cell (b := w.heap.size) (o := 6) (by simp)
  have z7 := b1.cell (b := w.heap.size) (o := 7) (by simp)
  simp at z1 z4 z5 z6 z7
  have q1' := hid (((Bl.refl w).alloc _).trans b1)
  go_wp2_with fail
  refine (locate_ref q1 q2 q3 q4 a _).mono ?_
  rw [hr.out]
  rintro e w2 ⟨rfl, b2⟩
  unfold tup
  go_wp2
  go_ret
  exact ⟨rfl, q1'.out.trans b2⟩
theorem LentK.sll {base : Nat} {w : World} {G : Nat} {ls : List Value} {L : List (List Int)} {ms : List Value} (h : LentK base w G ls L (L.length + 8) ms) : Sll w (.slice (some ⟨G, 0, none⟩) L.length (L.length + 8)) L := by
  have hl := ownsRow_len h.own
  have hc := ownsRow_cut h.own L.length (by omega)
  refine ⟨ms.take L.length, ownsRow_sl hc, by simp; omega, fun i hi hi' => ?_⟩
  rw [List.getElem_take]
  exact ((h.row i (by omega) (by omega)).1 hi' (by rw [h.ll]; exact hi')).sl
theorem Outl.only {S : Nat → Prop} {base : Nat} {w w' : World} {r : Value} {R : List (List Int)} (h : Outl base w r R) (ho : Only S w w') (hs : ∀ b, base ≤ b → ¬ S b) : Outl base w' r R := by
  rcases h with h | ⟨g, n, ms, e, hr⟩
  · exact .inl h
  · exact .inr ⟨g, n, ms, e, hr.only ho fun b hb _ => hs b hb⟩
theorem Outl.bl {base : Nat} {w w' : World} {r : Value} {R : List (List Int)} (h : Outl base w r R) (ho : Bl w w') : Outl base w' r R := h.only (Only.of_bl (S := fun _ => False) ho) fun _ _ e => e
theorem Outl.sll {base : Nat} {w : World} {r : Value} {R : List (List Int)} (h : Outl base w r R) : Sll w r R := by
  rcases h with ⟨rfl, rfl⟩ | ⟨g, n, ms, rfl, hr⟩
  · exact ⟨[], .inl ⟨_, _, rfl, rfl⟩, rfl, fun i h => by simp at h⟩
  · exact hr.sll
theorem nres_len (L : List (List Int)) (x : Int) (zs : List Int) : (nres L x zs).length ≤ L.length := by
  unfold nres; split <;> simp
theorem nres_row {L : List (List Int)} (x : Int) (zs : List Int) {B : Nat} (h : ∀ c ∈ L, c.length ≤ B) : ∀ c ∈ nres L x zs, c.length ≤ B := by
  intro c hc
  unfold nres at hc
  split at hc
  · obtain ⟨d, hd, rfl⟩ := List.mem_map.1 hc
    exact Nat.le_trans (rm_le x d) (h d hd)
  · simp at hc

set_option maxRecDepth 100000 in
set_option maxHeartbeats 4000000 in
theorem freeNext_any (B0 bw : Nat) (vi vcc : Value) (ni nc : Nat) (xi xc : List Value) (a b c q1 q2 q3 q4 : Int) (lay : Value) (ls : List Value) (L : List (List Int)) (l : Value) (zs : List Int) (s : ByteArray) (t1 t2 t3 : Int) (va : Option Addr) (vn vc : Nat) (w : World)
    (hB : Book B0 w bw vi vcc ni nc xi xc) (hfree : ∀ u ∈ xi ++ xc, ∀ b, u.ownBlock = some b → b < w.heap.size)
    (hlay : Sl w lay ls) (hll : ls.length = L.length) (hrows : ∀ i (h : i < ls.length) (h' : i < L.length), Sl w ls[i] (L[i].map (Value.int .i64))) (hl : Sl w l (zs.map (Value.int .i64)))
    (hL : L.length ≤ 2000000) (hLs : ∀ c ∈ L, c.length ≤ 4000000 ∧ wfAll c) (hz : zs.length ≤ 4000000) (hzw : wfAll zs) (hni : ni + L.length < 4000000) (hnc : nc < 4000000) :
    Calls Tryz.prog 10 #[.pointer (some ⟨bw, 0, none⟩), .agg #[.int .i64 2, .int .i64 a, .int .i64 b, .int .i64 c, .int .i64 q1, .int .i64 q2, .int .i64 q3, .int .i64 q4, lay, l, .string s, .int .i64 t1, .int .i64 t2, .int .i64 t3, .slice va vn vc]] w fun e w' =>
      ∃ vi' vc' xi' xc', e = .returned (.bool true) ∧ Book B0 w' bw vi' vc' (ni + (nres L a zs).length) (nc + 1) xi' xc' ∧ Only (fun b => B0 ≤ b) w w' := by
  have hLs1 : ∀ c ∈ L, c.length ≤ 4000000 := fun c hc => (hLs c hc).1
  obtain ⟨la, lc, hla⟩ := hlay.len
  obtain ⟨ua, uc, hua⟩ := hl.len
  rw [hll] at hla
  simp only [List.length_map] at hua
  subst hla hua
  have HB := hid hB
  have Hfree := hid hfree
  have Hlay := hid hlay
  have Hrows := hid hrows
  have Hl := hid hl
  have HLs := hid hLs
  have HLs1 := hid hLs1
  have Hll := hid hll
  have Hzw := hid hzw
  have lbw := hB.lt
  clear hB hfree hlay hrows hl hLs hLs1 hll hzw
  go_enter Tryz.func10, Tryz.ntmps10
  go_wp2_with fail
  have bB : Bl w (w.alloc (.cells #[.int .i64 2, .int .i64 a, .int .i64 b, .int .i64 c, .int .i64 q1, .int .i64 q2, .int .i64 q3, .int .i64 q4, .slice la L.length lc, .slice ua zs.length uc, .string s, .int .i64 t1, .int .i64 t2, .int .i64 t3, .slice va vn vc] 44)) := (Bl.refl _).alloc _
  have hbox := heap_alloc_new w (.cells #[.int .i64 2, .int .i64 a, .int .i64 b, .int .i64 c, .int .i64 q1, .int .i64 q2, .int .i64 q3, .int .i64 q4, .slice la L.length lc, .slice ua zs.length uc, .string s, .int .i64 t1, .int .i64 t2, .int .i64 t3, .slice va vn vc] 44)
  have lB : w.heap.size < (w.alloc (.cells #[.int .i64 2, .int .i64 a, .int .i64 b, .int .i64 c, .int .i64 q1, .int .i64 q2, .int .i64 q3, .int .i64 q4, .slice la L.length lc, .slice ua zs.length uc, .string s, .int .i64 t1, .int .i64 t2, .int .i64 t3, .slice va vn vc] 44)).heap.size := by simp
  generalize w.alloc (.cells #[.int .i64 2, .int .i64 a, .int .i64 b, .int .i64 c, .int .i64 q1, .int .i64 q2, .int .i64 q3, .int .i64 q4, .slice la L.length lc, .slice ua zs.length uc, .string s, .int .i64 t1, .int .i64 t2, .int .i64 t3, .slice va vn vc] 44) = wB at *
  have y1 := cell_of_row wB w.heap.size 1 _ 44 (0, 0) hbox
  have y8 := cell_of_row wB w.heap.size 8 _ 44 (0, 0) hbox
  have y9 := cell_of_row wB w.heap.size 9 _ 44 (0, 0) hbox
  simp at y1 y8 y9
  have Y1 := hid y1
  have Y8 := hid y8
  have Y9 := hid y9
  have BB := hid bB
  clear hbox y1 y8 y9 bB
  generalize hbx : w.heap.size = bx at *
  have Hbx := hid hbx
  clear hbx
  -- the layout is lent
  refine (lentLayout_any _ ls L _ (Hlay.out.bl BB.out) Hll.out (fun i h h' => (Hrows.out i h h').bl BB.out) (by omega) HLs1.out).mono ?_
  rintro e w1 ⟨G, ms, rfl, b1, hK1⟩
  have K1 := hid hK1
  have x1 := (b1.cell (o := 9) lB).trans Y9.out
  have B1 := hid b1
  clear hK1 b1
  go_wp2_with fail
  -- the numbers are lent
  refine (lentInts_any _ zs _ (Hl.out.bl (BB.out.trans B1.out)) hz).mono ?_
  rintro e w2 ⟨r, rfl, b2, hI2⟩
  have I2 := hid hI2
  have B2 := hid b2
  have K2 := hid (K1.out.bl b2)
  have x2 := ((B1.out.trans b2).cell (o := 1) lB).trans Y1.out
  clear hI2 b2
  go_wp2_with fail
  -- Next of the program
  refine (Next_any _ r L a zs _ K2.out.sll I2.out.sl (by omega) HLs.out hz Hzw.out).mono ?_
  rintro e w3 ⟨m, rfl, b3, hO3⟩
  have O3 := hid hO3
  have B3 := hid b3
  have K3 := hid (K2.out.bl b3)
  have I3 := hid (I2.out.bl b3)
  have x3 := (((B1.out.trans B2.out).trans b3).cell (o := 8) lB).trans Y8.out
  clear hO3 b3 x1 x2
  go_wp2_with fail
  -- the layout comes back
  refine (backLayout_any wB _ G _ ls L ms (fun b => wB.heap.size ≤ b ∧ b < w1.heap.size) ((B1.out.trans B2.out).trans B3.out) K3.out (Hlay.out.bl BB.out) (fun i h h' => (Hrows.out i h h').bl BB.out) (by omega) HLs1.out (by exact ⟨(K1.out.own.lt G rfl).1, (K1.out.own.lt G rfl).2⟩)
    (fun i h b hb => (K1.out.row i h (by have := ownsRow_len K1.out.own; omega)).lt Hll.out b hb) (fun b hb => hb.1)).mono ?_
  rintro e w4 ⟨rfl, o4⟩
  have B04 := hid (((B1.out.trans B2.out).trans B3.out).trans_only o4 (fun b hb => hb.1))
  have I4 := hid (I3.out.only o4 fun b hb e => by have := (I2.out.lt b hb).1; omega)
  have O4 := hid (O3.out.only o4 fun b hb e => by have := B2.out.lt; omega)
  have x4 := (B04.out.cell (o := 9) lB).trans Y9.out
  have S4 := hid o4.size
  clear o4 x3
  go_wp2_with fail
  -- the numbers come back
  refine (backInts_any w1.heap.size r _ zs _ I4.out (Hl.out.bl (BB.out.trans B04.out)) hz).mono ?_
  rintro e w5 ⟨rfl, o5⟩
  have B05 := hid (B04.out.trans_only o5 (fun b hb => by have := (I2.out.lt b hb).1; have := B1.out.lt; omega))
  have O5 := hid (O4.out.only o5 fun b hb e => by have := (I2.out.lt b e).2; omega)
  have x51 := (B05.out.cell (o := 1) lB).trans Y1.out
  have x58 := (B05.out.cell (o := 8) lB).trans Y8.out
  have x59 := (B05.out.cell (o := 9) lB).trans Y9.out
  have S5 := hid o5.size
  clear o5 x4
  go_wp2_with fail
  -- Next of the document
  refine (refNext_any _ _ L a zs _ ⟨ls, Hlay.out.bl (BB.out.trans B05.out), Hll.out, fun i h h' => (Hrows.out i h h').bl (BB.out.trans B05.out)⟩ (Hl.out.bl (BB.out.trans B05.out)) (by omega) HLs1.out hz).mono ?_
  rintro e w6 ⟨m2, rfl, b6, hS6⟩
  have S6 := hid hS6
  have O6 := hid (O5.out.bl b6)
  have B06 := hid (B05.out.trans b6)
  have S6' := hid b6.lt
  clear hS6 b6 x51 x58 x59
  go_wp2_with fail
  refine (sameLayout_any _ _ (nres L a zs) _ O6.out.sll S6.out (by have := nres_len L a zs; omega) (nres_row a zs HLs1.out)).mono ?_
  rintro e w7 ⟨rfl, b7⟩
  have O7 := hid (O6.out.bl b7)
  have B07 := hid ((BB.out.trans B06.out).trans b7)
  have S7 := hid b7.lt
  clear b7
  have hnl := nres_len L a zs
  have Hb2 : Hid (w2.heap.size ≤ w7.heap.size) := by
    have h1 := B3.out.lt
    have h2 := S4.out
    have h3 := S5.out
    have h4 := S6'.out
    have h5 := S7.out
    unfold Hid
    omega
  go_wp2_with fail
  -- what came out is booked
  refine (chain_any B0 bw vi vcc ni nc xi xc w2.heap.size m (nres L a zs) _ (HB.out.bl B07.out) O7.out ?h0 Hb2.out ?h1 (nres_row a zs HLs1.out) ?h2 hnc ?h3).mono ?_
  case h0 => have := HB.out.b0; have := HB.out.lt; have := BB.out.lt; have := B1.out.lt; have := B2.out.lt; omega
  case h1 => omega
  case h2 => omega
  case h3 => intro u hu b hb; have := Hfree.out u hu b hb; have := BB.out.lt; have := B1.out.lt; have := B2.out.lt; omega
  rintro e w8 ⟨vi', vc', xi', xc', rfl, hB8, hO8⟩
  have HB8 := hid hB8
  have HO8 := hid ((Only.of_bl B07.out).trans hO8)
  clear hB8 hO8
  go_wp2
  go_ret
  exact ⟨_, _, _, _, rfl, HB8.out, HO8.out⟩
end Go.Proofs.YtkgjpfamjedncaaGreat
