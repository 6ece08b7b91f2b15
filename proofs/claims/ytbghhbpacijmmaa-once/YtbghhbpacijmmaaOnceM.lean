-- What Once reckons with.
import Derived.Test.YtbghhbpacijmmaaParts
namespace Go.Proofs.Ytbghhbpacijmmaa
open Go.RowKit

/-- The settings, unit and address of Once. -/
structure Place (a b d u ch x : Int) (i : Nat) : Prop where
  a1 : 1 ≤ a
  a3 : a ≤ 3
  b1 : 1 ≤ b
  b3 : b ≤ 3
  d1 : 1 ≤ d
  d5 : d ≤ 5
  u0 : 0 ≤ u
  u1 : u < a * b
  hch : ch = u / b
  i1 : (i : Int) < d
  hx : x = ch + a * (i : Int)

theorem Place.ch_range {a b d u ch x : Int} {i : Nat} (h : Place a b d u ch x i) : 0 ≤ ch ∧ ch < a := by
  rw [h.hch]
  exact ⟨Int.ediv_nonneg h.u0 (by have := h.b1; omega), Int.ediv_lt_of_lt_mul (by have := h.b1; omega) h.u1⟩
theorem Place.fit {a b d u ch x : Int} {i : Nat} (h : Place a b d u ch x i) : fit a b 3 d = true := by
  have := h.a1; have := h.a3; have := h.b1; have := h.b3; have := h.d1; have := h.d5
  simp [Ytbghhbpacijmmaa.fit]; omega
theorem Place.cha {a b d u ch x : Int} {i : Nat} (h : Place a b d u ch x i) : cha a b 3 d u = (ch, 0) := by
  unfold Ytbghhbpacijmmaa.cha
  rw [if_pos h.fit, if_neg (by have := h.u0; have := h.u1; omega), h.hch]
theorem Place.xr {a b d u ch x : Int} {i : Nat} (h : Place a b d u ch x i) : 0 ≤ x ∧ x < a * d ∧ x < 15 := by
  obtain ⟨c0, c1⟩ := h.ch_range
  have ha := h.a1; have ha3 := h.a3; have hd := h.d5; have hi := h.i1
  have hx := h.hx
  have hi4 : i < 5 := by omega
  have h1 : a * (i : Int) + a ≤ a * d := by
    have := Int.mul_le_mul_of_nonneg_left (show (i : Int) + 1 ≤ d by omega) (show 0 ≤ a by omega)
    rw [Int.mul_add, Int.mul_one] at this; exact this
  have h2 : 0 ≤ a * (i : Int) := Int.mul_nonneg (by omega) (by omega)
  have h3 : a * d ≤ 15 := by
    have := Int.mul_le_mul ha3 hd (by have := h.d1; omega) (by decide : (0 : Int) ≤ 3)
    omega
  omega
theorem Place.loc {a b d u ch x : Int} {i : Nat} (h : Place a b d u ch x i) : loc a b 3 d x = (ch, (i : Int), 0) := by
  obtain ⟨c0, c1⟩ := h.ch_range
  obtain ⟨x0, x1, _⟩ := h.xr
  unfold Ytbghhbpacijmmaa.loc
  rw [if_pos h.fit, if_neg (by omega), h.hx, Int.add_mul_emod_self_left, Int.add_mul_ediv_left _ _ (by have := h.a1; omega), Int.emod_eq_of_lt c0 c1, Int.ediv_eq_zero_of_lt c0 c1, Int.zero_add]
theorem Place.i16 {a b d u ch x : Int} {i : Nat} (h : Place a b d u ch x i) : i < 16 := by have := h.i1; have := h.d5; omega

/-- The contents when the cell i was written. -/
def ct1 (i : Nat) (ys : List Int) : Nat → Ct := fun j => if j = i then ⟨8, 5, 2, ys⟩ else no

theorem Place.look0 {a b d u ch x : Int} {i : Nat} (h : Place a b d u ch x i) : lookC a b 3 d ch 0 (fun _ => no) x = (3, 0, ⟨0, 0, 0, []⟩) := by
  unfold lookC
  rw [h.loc]
  have := h.xr
  simp [no]; omega
theorem Place.look1 {a b d u ch x : Int} {i : Nat} (h : Place a b d u ch x i) (ys : List Int) : lookC a b 3 d ch 0 (ct1 i ys) x = (2, 0, ⟨8, 5, 2, ys⟩) := by
  unfold lookC
  rw [h.loc]
  have := h.xr
  simp [ct1]; omega
theorem Place.look2 {a b d u ch x : Int} {i : Nat} (h : Place a b d u ch x i) (ys : List Int) : lookC a b 3 d ch (x + 1) (ct1 i ys) x = (4, x + 1, ⟨8, 5, 2, []⟩) := by
  unfold lookC
  rw [h.loc]
  simp [ct1]; omega
theorem ct1_vals (i : Nat) (ys : List Int) (hy : ys.length ≤ 8) : ∀ j, j < 16 → (ct1 i ys j).val.length ≤ 255 := by
  intro j _
  unfold ct1
  split
  · simp; omega
  · simp [no]

def r0 (e : Int) : List Rc := if e = 0 then [] else [⟨1, [e], []⟩]
def rW (e x : Int) (ys : List Int) : Rc := ⟨3, [e, x, 8, 5, 2], ys⟩
def rsA (e x : Int) (ys : List Int) : List Rc := r0 e ++ [rW e x ys]
def rsB (e x : Int) (ys : List Int) : List Rc := rsA e x ys ++ [⟨1, [e + 2], []⟩]
def rsC (e x : Int) (ys : List Int) : List Rc := rsB e x ys ++ [⟨2, [e + 2, x + 1], []⟩]

theorem flat_r0 (e : Int) : flat (r0 e) = if e = 0 then [] else recB 1 [e] [] := by
  unfold r0
  split
  · rfl
  · simp [flat, Rc.bytes]
theorem flat_rsA (e x : Int) (ys : List Int) : flat (rsA e x ys) = (if e = 0 then [] else recB 1 [e] []) ++ recB 3 [e, x, 8, 5, 2] ys := by
  unfold rsA
  rw [flat_append, flat_r0]; simp [flat, Rc.bytes, rW]
theorem flat_rsB (e x : Int) (ys : List Int) : flat (rsB e x ys) = flat (rsA e x ys) ++ recB 1 [e + 2] [] := by
  unfold rsB
  rw [flat_append]; simp [flat, Rc.bytes]
theorem flat_rsC (e x : Int) (ys : List Int) : flat (rsC e x ys) = flat (rsB e x ys) ++ recB 2 [e + 2, x + 1] [] := by
  unfold rsC
  rw [flat_append]; simp [flat, Rc.bytes]
theorem once_len (e x : Int) (ys : List Int) (hy : ys.length ≤ 8) : (flat (rsA e x ys)).length ≤ 100 ∧ (flat (rsB e x ys)).length = (flat (rsA e x ys)).length + 11 ∧ (flat (rsC e x ys)).length = (flat (rsB e x ys)).length + 19 := by
  rw [flat_rsC, flat_rsB, flat_rsA]
  simp only [List.length_append, recB_len]
  split <;> simp [recB_len] <;> omega

/-- The states that the records go through. -/
def Sx (e x : Int) (i : Nat) (ys : List Int) (j : Nat) : St :=
  if j = 0 then St.first
  else if j = (r0 e).length then ⟨e, 0, fun _ => no⟩
  else if j = (r0 e).length + 1 then ⟨e, 0, ct1 i ys⟩
  else if j = (r0 e).length + 2 then ⟨e + 2, 0, ct1 i ys⟩
  else ⟨e + 2, x + 1, ct1 i ys⟩

theorem wf_small {n : Int} (h0 : -1000000 ≤ n) (h1 : n ≤ 1000000) : (Lit.int .i64 n).wf = true := by
  simp [Lit.wf, IntKind.min, IntKind.max, IntKind.bits, IntKind.signed]; omega

theorem Way.front {a b c d ch : Int} {rs ts : List Rc} {S : Nat → St} (h : Way a b c d ch (rs ++ ts) S) : Way a b c d ch rs S where
  zero := h.zero
  step := fun j hj => by
    have := h.step j (by rw [List.length_append]; omega)
    rw [List.getElem_append_left hj] at this
    exact this
  ok := fun r hr => h.ok r (List.mem_append_left _ hr)

theorem way_once {a b d u ch x e : Int} {i : Nat} {ys : List Int} (h : Place a b d u ch x i) (he0 : 0 ≤ e) (he1 : e < 1000) (hy1 : 1 ≤ ys.length) (hy8 : ys.length ≤ 8) (hy : ∀ d ∈ ys, 0 ≤ d ∧ d ≤ 255) : Way a b 3 d ch (rsC e x ys) (Sx e x i ys) := by
  obtain ⟨x0, _, x1⟩ := h.xr
  have hc : isC 8 ys.length = true := by simp [isC]; omega
  have p1 : ∀ s : St, s.ep ≤ e → s.mark = 0 → s.ct = (fun _ => no) → Plays a b 3 d ch s (rW e x ys) ⟨e, 0, ct1 i ys⟩ := by
    rintro ⟨ep, mk, ct⟩ h1 h2 h3
    simp only at h1 h2 h3
    subst h2 h3
    exact Plays.write ⟨ep, 0, fun _ => no⟩ e x 8 5 2 ys i (by simp; omega) h.i16 h.loc h.look0 hc
  have p2 : Plays a b 3 d ch ⟨e, 0, ct1 i ys⟩ ⟨1, [e + 2], []⟩ ⟨e + 2, 0, ct1 i ys⟩ := Plays.sealed ⟨e, 0, ct1 i ys⟩ (e + 2) (by simp; omega)
  have p3 : Plays a b 3 d ch ⟨e + 2, 0, ct1 i ys⟩ ⟨2, [e + 2, x + 1], []⟩ ⟨e + 2, x + 1, ct1 i ys⟩ := Plays.trim ⟨e + 2, 0, ct1 i ys⟩ (e + 2) (x + 1) (by simp) (by simp; omega)
  refine ⟨by simp [Sx], ?_, ?_⟩
  · by_cases hz : e = 0
    · have hr : r0 e = [] := by simp [r0, hz]
      intro j hj
      have e0 : rsC e x ys = [rW e x ys, ⟨1, [e + 2], []⟩, ⟨2, [e + 2, x + 1], []⟩] := by simp [rsC, rsB, rsA, hr]
      have eS : ∀ j, Sx e x i ys j = if j = 0 then St.first else if j = 1 then ⟨e, 0, ct1 i ys⟩ else if j = 2 then ⟨e + 2, 0, ct1 i ys⟩ else ⟨e + 2, x + 1, ct1 i ys⟩ := by
        intro j; unfold Sx; rw [hr]
        by_cases h0 : j = 0 <;> simp [h0]
      rw [eS, eS]
      simp only [e0] at hj ⊢
      match j, hj with
      | 0, _ => exact p1 _ (by simp [St.first]; omega) rfl rfl
      | 1, _ => exact p2
      | 2, _ => exact p3
      | n + 3, hj => simp at hj; omega
    · have hr : r0 e = [⟨1, [e], []⟩] := by simp [r0, hz]
      intro j hj
      have e0 : rsC e x ys = [⟨1, [e], []⟩, rW e x ys, ⟨1, [e + 2], []⟩, ⟨2, [e + 2, x + 1], []⟩] := by simp [rsC, rsB, rsA, hr]
      have eS : ∀ j, Sx e x i ys j = if j = 0 then St.first else if j = 1 then ⟨e, 0, fun _ => no⟩ else if j = 2 then ⟨e, 0, ct1 i ys⟩ else if j = 3 then ⟨e + 2, 0, ct1 i ys⟩ else ⟨e + 2, x + 1, ct1 i ys⟩ := by
        intro j; unfold Sx; rw [hr]; rfl
      rw [eS, eS]
      simp only [e0] at hj ⊢
      match j, hj with
      | 0, _ => exact Plays.sealed St.first e (by simp [St.first]; omega)
      | 1, _ => exact p1 _ (by simp) rfl rfl
      | 2, _ => exact p2
      | 3, _ => exact p3
      | n + 4, hj => simp at hj; omega
  · intro r hr
    have key : r = ⟨1, [e], []⟩ ∨ r = rW e x ys ∨ r = ⟨1, [e + 2], []⟩ ∨ r = ⟨2, [e + 2, x + 1], []⟩ := by
      unfold rsC rsB rsA r0 at hr
      split at hr <;> simp at hr <;> simp [hr] <;> rcases hr with h | h | h | h <;> simp_all
    rcases key with rfl | rfl | rfl | rfl
    · refine ⟨by simp, by simp, by simp, by simp, by simp, ?_, by simp, (1, 1, 0), by decide, rfl, rfl, by simp⟩
      simp; exact wf_small (by omega) (by omega)
    · refine ⟨by simp [rW], by simp [rW], by simp [rW], by simp [rW], by simp [rW]; omega, ?_, hy, (3, 5, 8), by decide, rfl, rfl, by simp [rW]; omega⟩
      simp [rW]
      exact ⟨wf_small (by omega) (by omega), wf_small (by omega) (by omega), by decide, by decide, by decide⟩
    · refine ⟨by simp, by simp, by simp, by simp, by simp, ?_, by simp, (1, 1, 0), by decide, rfl, rfl, by simp⟩
      simp; exact wf_small (by omega) (by omega)
    · refine ⟨by simp, by simp, by simp, by simp, by simp, ?_, by simp, (2, 2, 0), by decide, rfl, rfl, by simp⟩
      simp; exact ⟨wf_small (by omega) (by omega), wf_small (by omega) (by omega)⟩

theorem off_mono (rs : List Rc) {j k : Nat} (h : j ≤ k) : off rs j ≤ off rs k := by
  unfold off
  rw [← List.take_append_drop j (rs.take k), flat_append, List.length_append, List.take_take, Nat.min_eq_left h]
  omega
theorem full_k {rs : List Rc} {n k : Nat} (hk : k ≤ rs.length) (hn : n = (flat rs).length) (h : ∀ h : k < rs.length, n < off rs k + rs[k].bytes.length) : k = rs.length := by
  by_cases hlt : k < rs.length
  · have h1 := h hlt
    rw [← off_succ rs k hlt] at h1
    have := off_mono rs (j := k + 1) (k := rs.length) hlt
    rw [off_all] at this; omega
  · omega
theorem last_k {rs : List Rc} {r : Rc} {n k : Nat} (hk : k ≤ (rs ++ [r]).length) (hn : (flat rs).length ≤ n) (h : ∀ h : k < (rs ++ [r]).length, n < off (rs ++ [r]) k + (rs ++ [r])[k].bytes.length) : k = rs.length ∨ k = rs.length + 1 := by
  by_cases hlt : k < rs.length
  · have hl : k < (rs ++ [r]).length := by rw [List.length_append]; omega
    have h1 := h hl
    rw [← off_succ _ k hl] at h1
    have h2 := off_mono (rs ++ [r]) (j := k + 1) (k := rs.length) hlt
    have h3 : off (rs ++ [r]) rs.length = (flat rs).length := by unfold off; rw [List.take_left']; rfl
    omega
  · rw [List.length_append, List.length_singleton] at hk; omega

theorem Sx_A (e x : Int) (i : Nat) (ys : List Int) : Sx e x i ys (rsA e x ys).length = ⟨e, 0, ct1 i ys⟩ := by
  unfold Sx rsA; simp
theorem Sx_B (e x : Int) (i : Nat) (ys : List Int) : Sx e x i ys ((rsA e x ys).length + 1) = ⟨e + 2, 0, ct1 i ys⟩ := by
  unfold Sx rsA
  rw [List.length_append, List.length_singleton, if_neg (by omega), if_neg (by omega), if_neg (by omega), if_pos (by omega)]
theorem Sx_C (e x : Int) (i : Nat) (ys : List Int) : Sx e x i ys (rsC e x ys).length = ⟨e + 2, x + 1, ct1 i ys⟩ := by
  unfold Sx rsC rsB rsA
  simp only [List.length_append, List.length_singleton]
  rw [if_neg (by omega), if_neg (by omega), if_neg (by omega), if_neg (by omega)]
end Go.Proofs.Ytbghhbpacijmmaa
