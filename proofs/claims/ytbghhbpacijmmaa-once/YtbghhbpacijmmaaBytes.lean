/-
  Bytes: Clone, Equal, measure.
-/
import Derived.Test.YtbghhbpacijmmaaFits
namespace Go.Proofs.Ytbghhbpacijmmaa
open Go.RowKit

theorem Try.nil22 (w : World) (a : Option Addr) (n c n' c' : Nat) : (binOp .eql 22 (.slice a n c) (.slice none n' c')).run Try.prog w = .ok (.bool a.isNone) w := Lib.run_eql_slice_nil w _ _ a n c n' c' Try.underlying22

set_option maxRecDepth 100000 in
set_option maxHeartbeats 400000 in
theorem clone_any (v : Value) (ys : List Int) (w : World) (hv : Bs w v (ys.map B8)) (hl : ys.length ≤ 4000000) :
    Calls Try.prog 44 #[v] w fun e w' => ∃ v', e = .returned v' ∧ Bl w w' ∧ w'.ownsRow w.heap.size 5 1 v' ys.length (ys.map B8) := by
  have hnil := Try.nil22
  obtain ⟨i5, ji, jz0, jz1, jz2⟩ := info_parts Try.info5
  rcases hv with ⟨rfl, hz⟩ | ⟨ad, c, rfl, hc⟩
  · simp at hz
    subst hz
    go_enter Try.func44, Try.ntmps44
    go_wp2
    go_ret
    exact ⟨_, rfl, Bl.refl _, World.ownsRow_nil _ _ _ _⟩
  · have HB : Hid (Bs w (.slice (some ad) (ys.map B8).length c) (ys.map B8)) := .inr ⟨ad, c, rfl, hc⟩
    have hby : Hid ((0 + (ys.map B8).length) * 1 ≤ 140737488355328) := by unfold Hid; simp; omega
    have hml : Hid (0 + (ys.map B8).length ≤ maxLen) := by unfold Hid maxLen; simp; omega
    have HO := hid (World.ownsRow_lit (base := w.heap.size) (e := 5) (size := 1) w #[] 0 (Nat.le_refl _) (by unfold maxLen; omega) rfl)
    clear hc
    go_enter Try.func44, Try.ntmps44
    go_wp2_with (at_builtin; refine wpList_append_bs _ rfl (.tmp 5) (.tmp 6) 22 rfl w.heap.size 5 i5 (.int .u8 0) 1 Try.underlying22 ji jz0 jz1 jz2 rfl _ 0 [] rfl HO.out _ _ rfl (HB.out.bl ((Bl.refl _).alloc _)) (b8_one ys) hml.out hby.out (by simp) ?_)
    intro v' w' hG
    have HG := hid hG
    clear hG
    go_wp2
    go_ret
    refine ⟨_, rfl, ((Bl.refl w).alloc _).trans_only HG.out.only (fun n hn => by simp [Value.ownBlock] at hn; omega), ?_⟩
    have := HG.out.own
    simpa using this

/-- Bytes as a string. -/
def strOf (ys : List Int) : ByteArray := ys.foldl (fun r n => r.push (UInt8.ofNat n.toNat)) ByteArray.empty

theorem conv_any (u : Value) (ys : List Int) (w : World) (hu : Sl w u (ys.map B8)) : (convert 22 9 u).run Try.prog w = .ok (.string (strOf ys)) w := by
  have key : ∀ a c, (∀ j v, (ys.map B8)[j]? = some v → w.cell? (a.add j) = some v) → (convert 22 9 (.slice (some a) ys.length c)).run Try.prog w = .ok (.string (strOf ys)) w := by
    intro a c h
    rw [run_convert_bytes_string w 22 9 5 (some a) ys.length c Try.underlying22 Try.underlying5 Try.underlying9]
    have hl := run_loadCells_list (P := Try.prog) (w := w) a (ys.map B8) h
    rw [List.length_map] at hl
    exact run_bytesToString w a ys.length c ys hl
  rcases hu with ⟨a, c, rfl, hz⟩ | ⟨b, o, c, rfl, hb, hc⟩
  · simp at hz
    subst hz
    cases a with
    | none =>
      rw [run_convert_bytes_string w 22 9 5 none 0 c Try.underlying22 Try.underlying5 Try.underlying9]
      simp [Conv.bytesToString]
      rfl
    | some a => exact key a c (fun j v h => by simp at h)
  · rw [List.length_map]
    refine key ⟨b, o, none⟩ c (fun j v h => ?_)
    obtain ⟨hjl, rfl⟩ := List.getElem?_eq_some_iff.1 h
    rw [add_eq]
    exact hc j hjl

set_option maxRecDepth 100000 in
set_option maxHeartbeats 400000 in
theorem equal_any (u v : Value) (ys : List Int) (w : World) (hu : Sl w u (ys.map B8)) (hv : Sl w v (ys.map B8)) :
    Calls Try.prog 46 #[u, v] w fun e w' => e = .returned (.bool true) ∧ w' = w := by
  obtain ⟨a, c, e⟩ := hu.len
  obtain ⟨a', c', e'⟩ := hv.len
  have k1 := conv_any u ys w hu
  have k2 := conv_any v ys w hv
  subst e e'
  simp only [List.length_map] at k1 k2 ⊢
  generalize strOf ys = st at *
  clear hu hv
  go_enter Try.func46, Try.ntmps46
  go_wp2
  go_ret
  exact ⟨ret_bool (by simp), rfl⟩

set_option maxRecDepth 100000 in
set_option maxHeartbeats 400000 in
theorem measure_short (u : Value) (ds : List Int) (w : World) (hu : Sl w u (ds.map B8)) (h : ds.length < 3) :
    Calls Try.prog 60 #[u] w fun e w' => e = .returned (.tuple #[.int .i64 0, .bool false]) ∧ Bl w w' := by
  obtain ⟨a, c, e⟩ := hu.len
  simp only [List.length_map] at e
  subst e
  have h' : (ds.length : Int) < 3 := by omega
  go_enter Try.func60, Try.ntmps60
  go_wp2
  go_ret2
  exact ⟨rfl, Bl.refl _⟩

set_option maxRecDepth 100000 in
set_option maxHeartbeats 400000 in
theorem measure_any (u : Value) (ds : List Int) (w : World) (hu : Sl w u (ds.map B8)) (h : 3 ≤ ds.length) (hl : ds.length ≤ 4000000) (hby : ∀ d ∈ ds, 0 ≤ d ∧ d ≤ 255) :
    Calls Try.prog 60 #[u] w fun e w' => e = .returned (.tuple #[.int .i64 (3 + ds.getD 1 0 * 8 + ds.getD 2 0), .bool (decide (3 + ds.getD 1 0 * 8 + ds.getD 2 0 ≤ ds.length))]) ∧ Bl w w' := by
  rcases hu with ⟨a, c, rfl, hz⟩ | ⟨b, o, c, rfl, hb, hc⟩
  · simp at hz; simp [hz] at h
  have y1 := byte_at hc 1 (by omega)
  have y2 := byte_at hc 2 (by omega)
  have r1 := hby (ds.getD 1 0) (by rw [List.getD, List.getElem?_eq_getElem (by omega)]; exact List.getElem_mem _)
  have r2 := hby (ds.getD 2 0) (by rw [List.getD, List.getElem?_eq_getElem (by omega)]; exact List.getElem_mem _)
  generalize ds.getD 1 0 = d1 at *
  generalize ds.getD 2 0 = d2 at *
  obtain ⟨r10, r11⟩ := r1
  obtain ⟨r20, r21⟩ := r2
  have m0 : (2 : Int) < (ds.length : Int) := by omega
  simp only [List.length_map] at hc ⊢
  clear hc hby
  go_enter Try.func60, Try.ntmps60
  go_wp2
  go_quiet (fail)
  go_wp2
  go_ret2
  exact ⟨rfl, (Bl.refl _).drewN _⟩
end Go.Proofs.Ytbghhbpacijmmaa
