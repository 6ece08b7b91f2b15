/-
  Which shapes fit the beginning of bytes.
-/
import Derived.Test.YtbghhbpacijmmaaRec
namespace Go.Proofs.Ytbghhbpacijmmaa
open Go.RowKit

/-- Does a shape (kind, numbers, value) fit the beginning of some bytes? -/
def fitsB (k n v : Int) (ds : List Int) : Bool := (ds.getD 0 0 == k) && (decide (ds.length < 2) || (ds.getD 1 0 == n)) && (decide (ds.length < 3) || decide (ds.getD 2 0 ≤ v))

theorem byte_at {w : World} {b o : Nat} {ds : List Int} (hc : ∀ j, (h : j < (ds.map B8).length) → w.cell? ⟨b, o + j, none⟩ = some (ds.map B8)[j]) (j : Nat) (h : j < ds.length) : w.cell? ⟨b, o + j, none⟩ = some (.int .u8 (ds.getD j 0)) := by
  have := hc j (by simpa using h)
  rw [this]
  simp [B8, List.getD, h]

set_option maxRecDepth 100000 in
set_option maxHeartbeats 4000000 in
theorem begins_core (k n v : Int) (b o c m : Nat) (d0 d1 d2 : Int) (r : Bool) (w : World) (hm : 0 < m) (hl : m ≤ 4000000) (hb : b < w.heap.size) (y0 : w.cell? ⟨b, o, none⟩ = some (.int .u8 d0)) (y1 : 1 < m → w.cell? ⟨b, o + 1, none⟩ = some (.int .u8 d1)) (y2 : 2 < m → w.cell? ⟨b, o + 2, none⟩ = some (.int .u8 d2))
    (r0 : 0 ≤ d0 ∧ d0 ≤ 255) (r1 : 0 ≤ d1 ∧ d1 ≤ 255) (r2 : 0 ≤ d2 ∧ d2 ≤ 255) (hr : Hid (((d0 == k) && (decide (m < 2) || (d1 == n)) && (decide (m < 3) || decide (d2 ≤ v))) = r)) :
    Calls Try.prog 58 #[.agg #[.int .i64 k, .int .i64 n, .int .i64 v], .slice (some ⟨b, o, none⟩) m c] w fun e w' => e = .returned (.bool r) ∧ Bl w w' := by
  obtain ⟨r00, r01⟩ := r0
  obtain ⟨r10, r11⟩ := r1
  obtain ⟨r20, r21⟩ := r2
  have m0 : (0 : Int) < (m : Int) := by omega
  cases e0 : (d0 == k)
  · have F : Hid (r = false) := by rw [Hid, ← hr.out, e0]; rfl
    clear hr y1 y2
    go_enter Try.func58, Try.ntmps58
    go_wp2
    go_quiet (fail)
    go_wp2
    go_ret
    exact ⟨ret_bool F.out.symm, ((Bl.refl _).alloc _).drewN _⟩
  · by_cases l1 : m < 2
    · have F : Hid (r = true) := by rw [Hid, ← hr.out, e0]; simp [l1]; omega
      have m1 : (m : Int) < 2 := by omega
      have m2 : (m : Int) < 3 := by omega
      clear hr y1 y2
      go_enter Try.func58, Try.ntmps58
      go_wp2
      go_quiet (fail)
      go_wp2
      go_ret
      exact ⟨ret_bool F.out.symm, ((Bl.refl _).alloc _).drewN _⟩
    · have z1 := y1 (by omega)
      have m1 : (1 : Int) < (m : Int) := by omega
      have n1 : decide ((m : Int) < 2) = false := by simp; omega
      cases e1 : (d1 == n)
      · have F : Hid (r = false) := by rw [Hid, ← hr.out, e0, e1]; simp [l1]
        clear hr y1 y2
        go_enter Try.func58, Try.ntmps58
        go_wp2
        go_quiet (fail)
        go_wp2
        go_ret
        exact ⟨ret_bool F.out.symm, ((Bl.refl _).alloc _).drewN _⟩
      · by_cases l2 : m < 3
        · have F : Hid (r = true) := by rw [Hid, ← hr.out, e0, e1]; simp [l2]
          have m2 : (m : Int) < 3 := by omega
          clear hr y1 y2
          go_enter Try.func58, Try.ntmps58
          go_wp2
          go_quiet (fail)
          go_wp2
          go_ret
          exact ⟨ret_bool F.out.symm, ((Bl.refl _).alloc _).drewN _⟩
        · have z2 := y2 (by omega)
          have m2 : (2 : Int) < (m : Int) := by omega
          have n2 : decide ((m : Int) < 3) = false := by simp; omega
          have F : Hid (r = decide (d2 ≤ v)) := by rw [Hid, ← hr.out, e0, e1]; simp [l2]
          clear hr y1 y2
          go_enter Try.func58, Try.ntmps58
          go_wp2
          go_quiet (fail)
          go_wp2
          go_ret
          exact ⟨ret_bool F.out.symm, ((Bl.refl _).alloc _).drewN _⟩

theorem begins_any (k n v : Int) (u : Value) (ds : List Int) (w : World) (hu : Sl w u (ds.map B8)) (h0 : 0 < ds.length) (hl : ds.length ≤ 4000000) (hby : ∀ d ∈ ds, 0 ≤ d ∧ d ≤ 255) :
    Calls Try.prog 58 #[.agg #[.int .i64 k, .int .i64 n, .int .i64 v], u] w fun e w' => e = .returned (.bool (fitsB k n v ds)) ∧ Bl w w' := by
  rcases hu with ⟨a, c, rfl, hz⟩ | ⟨b, o, c, rfl, hb, hc⟩
  · simp at hz; simp [hz] at h0
  have rng : ∀ j, 0 ≤ ds.getD j 0 ∧ ds.getD j 0 ≤ 255 := fun j => by
    by_cases h : j < ds.length
    · rw [List.getD, List.getElem?_eq_getElem h]; exact hby _ (List.getElem_mem h)
    · rw [List.getD, List.getElem?_eq_none (by omega)]; simp
  have y0 := byte_at hc 0 h0
  rw [List.length_map]
  exact begins_core k n v b o c ds.length _ _ _ _ w h0 hl hb y0 (fun h => byte_at hc 1 h) (fun h => byte_at hc 2 h) (rng 0) (rng 1) (rng 2) (hid rfl)
set_option maxRecDepth 100000 in
set_option maxHeartbeats 400000 in
theorem fitsFn_any (k n v : Int) (p : Nat) (u : Value) (ds : List Int) (w : World) (hp : p < w.heap.size) (hc : w.cell? ⟨p, 0, none⟩ = some u) (hu : Sl w u (ds.map B8)) (h0 : 0 < ds.length) (hl : ds.length ≤ 4000000) (hby : ∀ d ∈ ds, 0 ≤ d ∧ d ≤ 255) :
    Calls Try.prog 57 #[.agg #[.int .i64 k, .int .i64 n, .int .i64 v], .pointer (some ⟨p, 0, none⟩)] w fun e w' => e = .returned (.bool (fitsB k n v ds)) ∧ Bl w w' := by
  obtain ⟨a, c, e⟩ := hu.len
  simp only [List.length_map] at e
  subst e
  have Hu := hid hu
  have Hby := hid hby
  clear hu hby
  go_enter Try.func57, Try.ntmps57
  go_wp2_with fail
  refine (begins_any k n v _ ds _ (Hu.out.bl ((Bl.refl _).alloc _)) h0 hl Hby.out).mono ?_
  rintro e w' ⟨rfl, hb⟩
  go_wp2
  go_ret
  exact ⟨rfl, ((Bl.refl _).alloc _).trans hb⟩

/-- A slice of shapes. -/
def Shapes (w : World) (b o : Nat) (shs : List (Int × Int × Int)) : Prop :=
  b < w.heap.size ∧ ∀ j, (h : j < shs.length) → w.cell? ⟨b, o + j * 3, none⟩ = some (.int .i64 shs[j].1) ∧ w.cell? ⟨b, o + j * 3 + 1, none⟩ = some (.int .i64 shs[j].2.1) ∧ w.cell? ⟨b, o + j * 3 + 2, none⟩ = some (.int .i64 shs[j].2.2)

set_option maxRecDepth 100000 in
set_option maxHeartbeats 400000 in
theorem indexShape_any (b o c : Nat) (shs : List (Int × Int × Int)) (p : Nat) (u : Value) (ds : List Int) (w : World) (hsh : Shapes w b o shs) (hp : p < w.heap.size) (hcu : w.cell? ⟨p, 0, none⟩ = some u) (hu : Sl w u (ds.map B8)) (h0 : 0 < ds.length) (hl : ds.length ≤ 4000000) (hby : ∀ d ∈ ds, 0 ≤ d ∧ d ≤ 255) (hs : shs.length ≤ 1000) :
    Calls Try.prog 64 #[.slice (some ⟨b, o, none⟩) shs.length c, .func (.func 57) #[] #[.pointer (some ⟨p, 0, none⟩)]] w fun e w' => ∃ n : Int, e = .returned (.int .i64 n) ∧ (0 ≤ n ↔ ∃ s ∈ shs, fitsB s.1 s.2.1 s.2.2 ds = true) ∧ Bl w w' := by
  have Hsh := hid hsh
  have Hu := hid hu
  have Hby := hid hby
  have Hcu := hid hcu
  have hbs := hsh.1
  clear hsh hu hby hcu
  go_enter Try.func64, Try.ntmps64
  go_wp2
  go_loopw [8] (fun i wr => ∃ k : Nat, k ≤ shs.length ∧ i = .int .i64 k ∧ Bl w wr ∧ ∀ s ∈ shs.take k, ¬ fitsB s.1 s.2.1 s.2.2 ds = true) (fun i _ => shs.length - (intOf i).toNat)
  case atStart => exact ⟨0, Nat.zero_le _, rfl, Bl.refl _, by simp⟩
  case round =>
    obtain ⟨k, hk, rfl, hbl, hno⟩ := hrel
    have Hno := hid hno
    clear hno
    by_cases hlt : k < shs.length
    · obtain ⟨q0, q1, q2⟩ := Hsh.out.2 k hlt
      have g0 := (hbl.cell hbs).trans q0
      have g1 := (hbl.cell hbs).trans q1
      have g2 := (hbl.cell hbs).trans q2
      have Hm : Hid (shs[k] ∈ shs) := List.getElem_mem hlt
      have Ht : Hid (shs.take (k + 1) = shs.take k ++ [shs[k]]) := List.take_succ_eq_append_getElem hlt
      clear q0 q1 q2
      generalize shs[k] = sh at *
      obtain ⟨s1, s2, s3⟩ := sh
      cases hf : fitsB s1 s2 s3 ds
      · have Hf := hid hf
        clear hf
        go_wp2_with fail
        refine (fitsFn_any s1 s2 s3 p u ds _ (Nat.lt_of_lt_of_le hp hbl.lt) ((hbl.cell hp).trans Hcu.out) (Hu.out.bl hbl) h0 hl Hby.out).mono ?_
        rw [Hf.out]
        rintro e w' ⟨rfl, hbl'⟩
        go_wp2
        go_roundw
        case rel =>
          refine ⟨k + 1, by omega, by go_num, hbl.trans hbl', ?_⟩
          rw [Ht.out]
          intro y hy
          rcases List.mem_append.1 hy with hy | hy
          · exact Hno.out y hy
          · simp at hy; subst hy; rw [Hf.out]; simp
        case measure => simp [intOf]; omega
      · have Hf := hid hf
        clear hf
        go_wp2_with fail
        refine (fitsFn_any s1 s2 s3 p u ds _ (Nat.lt_of_lt_of_le hp hbl.lt) ((hbl.cell hp).trans Hcu.out) (Hu.out.bl hbl) h0 hl Hby.out).mono ?_
        rw [Hf.out]
        rintro e w' ⟨rfl, hbl'⟩
        go_wp2
        go_ret
        exact ⟨_, rfl, iff_of_true (by omega) ⟨_, Hm.out, Hf.out⟩, hbl.trans hbl'⟩
    · go_wp2
      go_ret
      refine ⟨_, rfl, iff_of_false (by omega) ?_, hbl⟩
      rintro ⟨y, hy, hz⟩
      refine Hno.out y ?_ hz
      rw [List.take_of_length_le (by omega)]
      exact hy

set_option maxRecDepth 100000 in
set_option maxHeartbeats 400000 in
theorem containsShape_any (b o c : Nat) (shs : List (Int × Int × Int)) (p : Nat) (u : Value) (ds : List Int) (w : World) (hsh : Shapes w b o shs) (hp : p < w.heap.size) (hcu : w.cell? ⟨p, 0, none⟩ = some u) (hu : Sl w u (ds.map B8)) (h0 : 0 < ds.length) (hl : ds.length ≤ 4000000) (hby : ∀ d ∈ ds, 0 ≤ d ∧ d ≤ 255) (hs : shs.length ≤ 1000) :
    Calls Try.prog 59 #[.slice (some ⟨b, o, none⟩) shs.length c, .func (.func 57) #[] #[.pointer (some ⟨p, 0, none⟩)]] w fun e w' => e = .returned (.bool (shs.any fun s => fitsB s.1 s.2.1 s.2.2 ds)) ∧ Bl w w' := by
  go_enter Try.func59, Try.ntmps59
  go_wp2_with fail
  refine (indexShape_any b o c shs p u ds _ hsh hp hcu hu h0 hl hby hs).mono ?_
  rintro e w' ⟨n, rfl, hn, hbl⟩
  have Hn := hid hn
  clear hn
  go_wp2
  go_ret
  refine ⟨ret_bool ?_, hbl⟩
  rw [Bool.eq_iff_iff]
  simpa using Hn.out

end Go.Proofs.Ytbghhbpacijmmaa
