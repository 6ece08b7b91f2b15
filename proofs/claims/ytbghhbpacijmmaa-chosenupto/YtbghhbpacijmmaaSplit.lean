-- Lists of records as bytes: what a cut of them leaves whole (toward Split).
import Derived.Test.YtbghhbpacijmmaaRead
namespace Go.Proofs.Ytbghhbpacijmmaa
open Go.RowKit

/-- A record: its kind, its numbers, its value. -/
structure Rc where
  kd : Int
  ns : List Int
  val : List Int
def Rc.bytes (r : Rc) : List Int := recB r.kd r.ns r.val
def flat (rs : List Rc) : List Int := rs.flatMap Rc.bytes
theorem flat_cons (r : Rc) (rs : List Rc) : flat (r :: rs) = r.bytes ++ flat rs := by simp [flat]
theorem Rc.len (r : Rc) : r.bytes.length = 3 + 8 * r.ns.length + r.val.length := recB_len _ _ _

structure Rc.Ok (shs : List (Int × Int × Int)) (r : Rc) : Prop where
  k0 : 0 ≤ r.kd
  k1 : r.kd ≤ 255
  n0 : 1 ≤ r.ns.length
  n1 : r.ns.length ≤ 255
  v1 : r.val.length ≤ 255
  wf : ∀ n ∈ r.ns, (Lit.int .i64 n).wf = true
  by8 : ∀ d ∈ r.val, 0 ≤ d ∧ d ≤ 255
  fits : ∃ s ∈ shs, s.1 = r.kd ∧ s.2.1 = r.ns.length ∧ (r.val.length : Int) ≤ s.2.2

theorem byteAt_range (n : Int) (j : Nat) : 0 ≤ byteAt n j ∧ byteAt n j ≤ 255 := by
  unfold byteAt
  have h0 := Int.emod_nonneg (IntKind.u64.wrap n / 2 ^ (56 - 8 * j)) (show (256 : Int) ≠ 0 by decide)
  have h1 := Int.emod_lt_of_pos (IntKind.u64.wrap n / 2 ^ (56 - 8 * j)) (show (0 : Int) < 256 by decide)
  omega
theorem Rc.range {shs : List (Int × Int × Int)} {r : Rc} (h : r.Ok shs) : ∀ d ∈ r.bytes, 0 ≤ d ∧ d ≤ 255 := by
  intro d hd
  simp only [Rc.bytes, recB, List.mem_append, List.mem_cons, List.not_mem_nil, or_false, List.mem_flatMap] at hd
  have := h.k0; have := h.k1; have := h.n1; have := h.v1
  rcases hd with (rfl | rfl | rfl) | ⟨n, _, hd⟩ | hd
  · omega
  · omega
  · omega
  · simp only [enc8, List.mem_map] at hd
    obtain ⟨j, _, rfl⟩ := hd
    exact byteAt_range n j
  · exact h.by8 d hd

/-- The beginning of a record fits one of the shapes. -/
theorem Rc.fit_take {shs : List (Int × Int × Int)} {r : Rc} (h : r.Ok shs) (n : Nat) (hn : 0 < n) (rest : List Int) (ds : List Int) (hds : ds = (r.bytes ++ rest).take n) : (shs.any fun s => fitsB s.1 s.2.1 s.2.2 ds) = true := by
  obtain ⟨s, hs, e1, e2, e3⟩ := h.fits
  rw [List.any_eq_true]
  refine ⟨s, hs, ?_⟩
  have hl := r.len
  have g0 : ds[0]? = some r.kd := by
    rw [hds, List.getElem?_take, if_pos hn, List.getElem?_append_left (by omega)]; exact recB_get0 _ _ _
  have g1 : 1 < n → ds[1]? = some (r.ns.length : Int) := fun h1 => by
    rw [hds, List.getElem?_take, if_pos h1, List.getElem?_append_left (by omega)]; exact recB_get1 _ _ _
  have g2 : 2 < n → ds[2]? = some (r.val.length : Int) := fun h2 => by
    rw [hds, List.getElem?_take, if_pos h2, List.getElem?_append_left (by omega)]; simp [Rc.bytes, recB]
  have hlen : ds.length ≤ n := by rw [hds]; exact List.length_take_le _ _
  unfold fitsB
  rw [Bool.and_eq_true, Bool.and_eq_true]
  refine ⟨⟨by simp [List.getD, g0, e1], ?_⟩, ?_⟩
  · by_cases h1 : ds.length < 2
    · simp [h1]
    · simp [List.getD, g1 (by omega), e2]
  · by_cases h2 : ds.length < 3
    · simp [h2]
    · simp [List.getD, g2 (by omega)]; right; omega
end Go.Proofs.Ytbghhbpacijmmaa
