/-
  The script of the kinds Locate and Next is played.
-/
import Derived.Test.YtkgjpfamjedncaaGreatStep
namespace Go.Proofs.YtkgjpfamjedncaaGreat
open Go.RowKit

/-- A step of the script, as it lies in memory. -/
def OpAt (w : World) (b off : Nat) (kd : Int) (L : List (List Int)) : Prop :=
  ∃ (a bb c q1 q2 q3 q4 : Int) (la : Option Addr) (ln lc : Nat) (ua : Option Addr) (un uc : Nat) (s : ByteArray) (t1 t2 t3 : Int) (va : Option Addr) (vn vc : Nat) (ls : List Value) (zs : List Int),
    (w.cell? ⟨b, off, none⟩ = some (.int .i64 kd) ∧ w.cell? ⟨b, off + 1, none⟩ = some (.int .i64 a) ∧ w.cell? ⟨b, off + 2, none⟩ = some (.int .i64 bb) ∧ w.cell? ⟨b, off + 3, none⟩ = some (.int .i64 c) ∧
     w.cell? ⟨b, off + 4, none⟩ = some (.int .i64 q1) ∧ w.cell? ⟨b, off + 5, none⟩ = some (.int .i64 q2) ∧ w.cell? ⟨b, off + 6, none⟩ = some (.int .i64 q3) ∧ w.cell? ⟨b, off + 7, none⟩ = some (.int .i64 q4) ∧
     w.cell? ⟨b, off + 8, none⟩ = some (.slice la ln lc) ∧ w.cell? ⟨b, off + 9, none⟩ = some (.slice ua un uc) ∧ w.cell? ⟨b, off + 10, none⟩ = some (.string s) ∧
     w.cell? ⟨b, off + 11, none⟩ = some (.int .i64 t1) ∧ w.cell? ⟨b, off + 12, none⟩ = some (.int .i64 t2) ∧ w.cell? ⟨b, off + 13, none⟩ = some (.int .i64 t3) ∧ w.cell? ⟨b, off + 14, none⟩ = some (.slice va vn vc)) ∧
    Sl w (.slice la ln lc) ls ∧ ls.length = L.length ∧ (∀ i (h : i < ls.length) (h' : i < L.length), Sl w ls[i] (L[i].map (Value.int .i64))) ∧ Sl w (.slice ua un uc) (zs.map (Value.int .i64)) ∧
    (∀ c ∈ L, c.length ≤ 4000000 ∧ wfAll c) ∧ zs.length ≤ 4000000 ∧ wfAll zs

def inB (kd : Int) (j : Nat) : Bool := (decide (1 ≤ j) && (kd == 1)) || (decide (2 ≤ j) && (kd == 2))
def total (Ls : List (List (List Int))) : Nat := (Ls.map List.length).sum
theorem total_app (A B : List (List (List Int))) : total (A ++ B) = total A + total B := by
  unfold total; rw [List.map_append, List.sum_append]
theorem total_succ (Ls : List (List (List Int))) (k : Nat) (h : k < Ls.length) : total (Ls.take (k + 1)) = total (Ls.take k) + Ls[k].length := by
  rw [List.take_succ_eq_append_getElem h, total_app]
  simp only [total, List.map_cons, List.map_nil, List.sum_cons, List.sum_nil, Nat.add_zero]
theorem total_le (Ls : List (List (List Int))) (k : Nat) : total (Ls.take k) ≤ total Ls := by
  have := total_app (Ls.take k) (Ls.drop k)
  rw [List.take_append_drop] at this
  omega
theorem inB_zero (kd : Int) : inB kd 0 = false := by simp [inB]
theorem inB_one (kd : Int) : inB kd 1 = (kd == 1) := by simp [inB]
theorem inB_two (kd : Int) : inB kd 2 = ((kd == 1) || (kd == 2)) := by simp [inB]

set_option maxRecDepth 100000 in
set_option maxHeartbeats 4000000 in
theorem plays_any (v : Value) (N : Nat) (b o cp kb : Nat) (kds : List Int) (Ls : List (List (List Int))) (w : World) (hv : v = .slice (some ⟨b, o, none⟩) N cp) (hkl : kds.length = N) (hLl : Ls.length = N) (hbl : b < w.heap.size)
    (hops : ∀ k (h : k < kds.length) (h' : k < Ls.length), OpAt w b (o + k * 15) kds[k] Ls[k]) (hkb : kb < w.heap.size) (hk0 : w.cell? ⟨kb, 0, none⟩ = some (.int .i64 1)) (hk1 : w.cell? ⟨kb, 1, none⟩ = some (.int .i64 2)) (hN : N ≤ 1048576) (hT : total Ls ≤ 1048576) :
    Calls Tryz.prog 7 #[v, .slice (some ⟨kb, 0, none⟩) 2 2] w fun e w' => e = .returned (.bool true) ∧ Bl w w' := by
  subst hv
  have Hops := hid hops
  have Hk0 := hid hk0
  have Hk1 := hid hk1
  have Hkl := hid hkl
  have HLl := hid hLl
  have HT := hid hT
  clear hops hk1 hkl hLl hT
  go_enter Tryz.func7, Tryz.ntmps7
  go_wp2_with fail
  refine (stepLocate_any w.heap.size 1 0 0 2 2 3 3 none 0 0 none 0 0 ByteArray.empty 0 0 0 none 0 0 _).mono ?_
  rintro e w1 ⟨rfl, b1⟩
  have hB1 : Hid (Book w.heap.size w1 w.heap.size (.slice none 0 0) (.slice none 0 0) 0 0 [] []) := ⟨Nat.le_refl _, (b1.heap (by simp)).trans (heap_alloc_new _ _), World.ownsRow_nil _ _ _ _, World.ownsRow_nil _ _ _ _, fun k h => by omega, fun k h => by omega⟩
  have hb1 := hid (((Bl.refl w).alloc _).trans b1)
  clear b1
  go_wp2
  go_loopw [6, 7] (fun ok i wr => ∃ (k : Nat) (vi vc : Value) (ni nc : Nat) (xi xc : List Value), k ≤ N ∧ i = .int .i64 k ∧ ok = .bool true ∧ Bl w wr ∧ Book w.heap.size wr w.heap.size vi vc ni nc xi xc ∧ ni ≤ total (Ls.take k) ∧ nc ≤ k) (fun _ i _ => N - (intOf i).toNat)
  case atStart => exact ⟨0, _, _, _, _, _, _, Nat.zero_le _, rfl, rfl, hb1.out, hB1.out, Nat.zero_le _, Nat.zero_le _⟩
  case round =>
    clear hB1 hb1 hk0
    obtain ⟨wo, rfl⟩ : ∃ wo, wo = wr := ⟨_, rfl⟩
    obtain ⟨k, vi, vc, ni, nc, xi, xc, hk, rfl, rfl, hbw, hB, hni, hnc⟩ := hrel
    have HB := hid hB
    clear hB
    by_cases hlt : k < N
    · have hk1' : k < kds.length := by rw [Hkl.out]; exact hlt
      have hk2' : k < Ls.length := by rw [HLl.out]; exact hlt
      have hop := hid (Hops.out k hk1' hk2')
      have htot := total_succ Ls k hk2'
      have htle := total_le Ls (k + 1)
      have hT2 := HT.out
      have hLk : Ls[k].length ≤ 1048576 := by omega
      have Htot := hid htot
      have hni2 : ni + Ls[k].length ≤ 1048576 := by omega
      have HTn : Hid (ni + Ls[k].length ≤ total (Ls.take (k + 1))) := by unfold Hid; omega
      have HTm : Hid (ni ≤ total (Ls.take (k + 1))) := by unfold Hid; omega
      clear htot htle hT2 hni
      generalize kds[k] = kd at *
      generalize Ls[k] = L at *
      obtain ⟨a, bb, c, q1, q2, q3, q4, la, ln, lc, ua, un, uc, s, t1, t2, t3, va, vn, vcc, ls, zs, ⟨d0, d1, d2, d3, d4, d5, d6, d7, d8, d9, d10, d11, d12, d13, d14⟩, hS1, hS2, hS3, hS4, hS5, hS6, hS7⟩ := hop.out
      have D0 := hid d0
      have g0 := (hbw.cell hbl).trans d0
      have y0 := (hbw.cell hkb).trans Hk0.out
      have y1 := (hbw.cell hkb).trans Hk1.out
      have HD := hid (And.intro d1 (And.intro d2 (And.intro d3 (And.intro d4 (And.intro d5 (And.intro d6 (And.intro d7 (And.intro d8 (And.intro d9 (And.intro d10 (And.intro d11 (And.intro d12 (And.intro d13 d14)))))))))))))
      have HS := hid (And.intro hS1 (And.intro hS2 (And.intro hS3 (And.intro hS4 (And.intro hS5 (And.intro hS6 hS7))))))
      clear hop d0 d1 d2 d3 d4 d5 d6 d7 d8 d9 d10 d11 d12 d13 d14 hS1 hS2 hS3 hS4 hS5 hS6 hS7
      have hkN : (k : Int) < (N : Int) := by omega
      have hk0i : (0 : Int) ≤ (k : Int) := by omega
      go_wp2
      go_loopw [8, 9] (fun q j wr => ∃ n : Nat, n ≤ 2 ∧ j = .int .i64 n ∧ q = .bool (inB kd n) ∧ Bl w wr ∧ Book w.heap.size wr w.heap.size vi vc ni nc xi xc) (fun _ j _ => 2 - (intOf j).toNat)
      case atStart => exact ⟨0, by omega, rfl, rfl, hbw, HB.out⟩
      case round =>
        clear HB hbw g0 y0 y1
        obtain ⟨n, hn, rfl, rfl, hbw, hB⟩ := hrel
        have HB := hid hB
        clear hB
        have g0 := (hbw.cell hbl).trans D0.out
        have y0 := (hbw.cell hkb).trans Hk0.out
        have y1 := (hbw.cell hkb).trans Hk1.out
        have hcase : n = 0 ∨ n = 1 ∨ n = 2 := by omega
        rcases hcase with rfl | rfl | rfl
        · rw [inB_zero]
          go_wp2
          go_quiet (fail)
          go_wp2
          go_roundw
          case rel => exact ⟨1, by omega, by go_num, by rw [inB_one], hbw.drewN _, HB.out.bl ((Bl.refl _).drewN _)⟩
          case measure => simp [intOf]
        · rw [inB_one]
          cases he : (kd == 1)
          · go_wp2
            go_quiet (fail)
            go_wp2
            go_roundw
            case rel => exact ⟨2, by omega, by go_num, by rw [inB_two, he]; rfl, hbw.drewN _, HB.out.bl ((Bl.refl _).drewN _)⟩
            case measure => simp [intOf]
          · have Hee := hid he
            clear he
            go_wp2
            go_quiet (fail)
            go_wp2
            go_roundw
            case rel => exact ⟨2, by omega, by go_num, by rw [inB_two, Hee.out]; rfl, hbw.drewN _, HB.out.bl ((Bl.refl _).drewN _)⟩
            case measure => simp [intOf]
        · rw [inB_two]
          by_cases h1 : kd = 1
          · subst h1
            obtain ⟨d1, d2, d3, d4, d5, d6, d7, d8, d9, d10, d11, d12, d13, d14⟩ := HD.out
            have g1 := (hbw.cell hbl).trans d1
            have g2 := (hbw.cell hbl).trans d2
            have g3 := (hbw.cell hbl).trans d3
            have g4 := (hbw.cell hbl).trans d4
            have g5 := (hbw.cell hbl).trans d5
            have g6 := (hbw.cell hbl).trans d6
            have g7 := (hbw.cell hbl).trans d7
            have g8 := (hbw.cell hbl).trans d8
            have g9 := (hbw.cell hbl).trans d9
            have g10 := (hbw.cell hbl).trans d10
            have g11 := (hbw.cell hbl).trans d11
            have g12 := (hbw.cell hbl).trans d12
            have g13 := (hbw.cell hbl).trans d13
            have g14 := (hbw.cell hbl).trans d14
            have HB1 := hid HB.out
            clear d1 d2 d3 d4 d5 d6 d7 d8 d9 d10 d11 d12 d13 d14
            simp only [show (((1 : Int) == 1) || ((1 : Int) == 2)) = true from rfl]
            go_wp2_with fail
            refine (stepLocate_any w.heap.size a bb c q1 q2 q3 q4 la ln lc ua un uc s t1 t2 t3 va vn vcc _).mono ?_
            rintro e w2 ⟨rfl, b2⟩
            have HB2 := hid (HB1.out.bl b2)
            have hb2 := hid (hbw.trans b2)
            clear g0 g1 g2 g3 g4 g5 g6 g7 g8 g9 g10 g11 g12 g13 g14 y0 y1 b2
            go_wp2_with fail
            refine (looks_any w.heap.size w.heap.size vi vc ni nc xi xc _ HB2.out (by omega) (by omega)).mono ?_
            rintro e w3 ⟨rfl, b3⟩
            have HB3 := hid (HB2.out.bl b3)
            have hb3 := hid (hb2.out.trans b3)
            clear b3
            go_wp2
            go_roundw
            case rel => exact ⟨k + 1, _, _, _, _, _, _, by omega, by go_num, rfl, hb3.out, HB3.out, HTm.out, by omega⟩
            case measure => simp [intOf]; omega
          · by_cases h2 : kd = 2
            · subst h2
              obtain ⟨d1, d2, d3, d4, d5, d6, d7, d8, d9, d10, d11, d12, d13, d14⟩ := HD.out
              obtain ⟨hS1, hS2, hS3, hS4, hS5, hS6, hS7⟩ := HS.out
              have g1 := (hbw.cell hbl).trans d1
              have g2 := (hbw.cell hbl).trans d2
              have g3 := (hbw.cell hbl).trans d3
              have g4 := (hbw.cell hbl).trans d4
              have g5 := (hbw.cell hbl).trans d5
              have g6 := (hbw.cell hbl).trans d6
              have g7 := (hbw.cell hbl).trans d7
              have g8 := (hbw.cell hbl).trans d8
              have g9 := (hbw.cell hbl).trans d9
              have g10 := (hbw.cell hbl).trans d10
              have g11 := (hbw.cell hbl).trans d11
              have g12 := (hbw.cell hbl).trans d12
              have g13 := (hbw.cell hbl).trans d13
              have g14 := (hbw.cell hbl).trans d14
              have HB1 := hid HB.out
              have T1 := hid (hS1.bl hbw)
              have T2 := hid hS2
              have T3 : Hid (∀ i (h : i < ls.length) (h' : i < L.length), Sl wr ls[i] (L[i].map (Value.int .i64))) := fun i h h' => (hS3 i h h').bl hbw
              have T4 := hid (hS4.bl hbw)
              have T5 := hid hS5
              have T7 := hid hS7
              clear d1 d2 d3 d4 d5 d6 d7 d8 d9 d10 d11 d12 d13 d14 hS1 hS2 hS3 hS4 hS5 hS7 h1
              simp only [show (((2 : Int) == 1) || ((2 : Int) == 2)) = true from rfl]
              go_wp2_with fail
              refine (stepNext_any w.heap.size w.heap.size vi vc ni nc xi xc a bb c q1 q2 q3 q4 la ln lc ua un uc ls L zs s t1 t2 t3 va vn vcc _ HB1.out HB1.out.used T1.out T2.out T3.out T4.out (by omega) T5.out hS6 T7.out (by omega) (by omega)).mono ?_
              rintro e w2 ⟨vi2, vc2, xi2, xc2, rfl, hB2, o2⟩
              have HB2 := hid hB2
              have hb2 := hid (hbw.trans_only o2 (fun b h => h))
              have hnl := nres_len L a zs
              clear g0 g1 g2 g3 g4 g5 g6 g7 g8 g9 g10 g11 g12 g13 g14 y0 y1 o2 hB2
              go_wp2_with fail
              refine (looks_any w.heap.size w.heap.size vi2 vc2 _ _ xi2 xc2 _ HB2.out (by omega) (by omega)).mono ?_
              rintro e w3 ⟨rfl, b3⟩
              have HB3 := hid (HB2.out.bl b3)
              have hb3 := hid (hb2.out.trans b3)
              clear b3
              go_wp2
              go_roundw
              case rel => exact ⟨k + 1, _, _, _, _, _, _, by omega, by go_num, rfl, hb3.out, HB3.out, by have := HTn.out; omega, by omega⟩
              case measure => simp [intOf]; omega
            · have hf : ((kd == 1) || (kd == 2)) = false := by simp [h1, h2]
              have HB1 := hid HB.out
              rw [hf]
              go_wp2
              go_roundw
              case rel => exact ⟨k + 1, _, _, _, _, _, _, by omega, by go_num, rfl, hbw, HB1.out, HTm.out, by omega⟩
              case measure => simp [intOf]; omega
    · go_wp2
      go_ret
      exact ⟨rfl, hbw⟩
end Go.Proofs.YtkgjpfamjedncaaGreat
