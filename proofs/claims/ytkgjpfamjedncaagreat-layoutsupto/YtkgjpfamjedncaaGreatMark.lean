/-
  Marks: a list of one value again and again, which is appended to.
-/
import Derived.Test.YtkgjpfamjedncaaGreatBackL
namespace Go.Proofs.YtkgjpfamjedncaaGreat
open Go.RowKit

theorem own_prefix {w : World} {base : Nat} {e : TypeId} {g q cap k : Nat} {x : Value} (h : w.ownsRow base e 1 (.slice (some ⟨g, 0, none⟩) q cap) q (List.replicate q x)) (hk : k ≤ q) : w.ownsRow base e 1 (.slice (some ⟨g, 0, none⟩) k cap) k (List.replicate k x) := by
  rcases h.2 with ⟨h', _⟩ | ⟨g', cap', cur, h', hb, hg, hc, hm, hs, htake⟩
  · simp at h'
  · simp only [Value.slice.injEq, Option.some.injEq, Addr.mk.injEq, and_true, true_and] at h'
    obtain ⟨rfl, rfl⟩ := h'
    refine ⟨by simp, .inr ⟨g, cap, cur, rfl, hb, hg, by omega, hm, hs, ?_⟩⟩
    have : cur.toList.take (k * 1) = (cur.toList.take (q * 1)).take k := by rw [List.take_take]; congr 1; omega
    rw [this, htake, List.take_replicate]
    congr 1
    omega

theorem own_shape {w : World} {base : Nat} {e : TypeId} {v : Value} {n : Nat} {xs : List Value} (h : w.ownsRow base e 1 v n xs) (hn : 0 < n) : ∃ g cap, v = .slice (some ⟨g, 0, none⟩) n cap := by
  rcases h.2 with ⟨_, h'⟩ | ⟨g, cap, cur, h', _⟩
  · omega
  · exact ⟨g, cap, h'⟩

theorem append_mark {w : World} {base : Nat} {e : TypeId} {x : Value} {v : Value} {n m : Nat} (hm : 0 < m) (hown : w.ownsRow base e 1 v n (List.replicate n x)) {w' : World} {v' : Value} (hb : base ≤ w.heap.size)
    (h : (w'.ownsRow w.heap.size e 1 v' (n + m) (List.replicate n x ++ List.replicate m x) ∧ w.grownBy w' none) ∨ (∃ g cap, v = .slice (some ⟨g, 0, none⟩) n cap ∧ v' = .slice (some ⟨g, 0, none⟩) (n + m) cap ∧ w'.ownsRow base e 1 v' (n + m) (List.replicate n x ++ List.replicate m x) ∧ w.grownBy w' (some g))) :
    ∃ g cap, v' = .slice (some ⟨g, 0, none⟩) (n + m) cap ∧ w'.ownsRow base e 1 v' (n + m) (List.replicate (n + m) x) ∧ (∀ s k, k ≤ n + m → w.ownsRow base e 1 s k (List.replicate k x) → w'.ownsRow base e 1 s k (List.replicate k x)) ∧
      Only (fun b => v.ownBlock = some b) w w' ∧ (v.ownBlock = some g ∨ w.heap.size ≤ g) := by
  rw [List.replicate_append_replicate] at h
  rcases h with ⟨h1, h2⟩ | ⟨g, cap, rfl, rfl, h1, h2⟩
  · obtain ⟨g, cap, rfl⟩ := own_shape h1 (by omega)
    refine ⟨g, cap, rfl, ownsRow_base h1 (fun b hb' => by have := (h1.lt b hb').1; omega), fun s k _ hs => (Only.of_grown h2).owns hs (fun b _ e => by simp at e), (Only.of_grown h2).mono (fun k _ e => by simp at e), .inr (h1.lt g rfl).1⟩
  · refine ⟨g, cap, rfl, h1, fun s k hk hs => ?_, (Only.of_grown h2).mono (fun k _ e => by simp [Value.ownBlock]; simpa using e.symm), .inl rfl⟩
    by_cases hsg : s.ownBlock = some g
    · rcases hs.2 with ⟨rfl, rfl⟩ | ⟨g', cap', cur, rfl, hb', hg', hc', hm', hs', _⟩
      · simp [Value.ownBlock] at hsg
      · simp [Value.ownBlock] at hsg
        subst hsg
        rcases hown.2 with ⟨h', _⟩ | ⟨g2, cap2, cur2, h', _, hg2, _, _, hs2, _⟩
        · simp at h'
        · simp only [Value.slice.injEq, Option.some.injEq, Addr.mk.injEq, and_true, true_and] at h'
          obtain ⟨rfl, rfl⟩ := h'
          rw [hg'] at hg2
          simp at hg2
          subst hg2
          have : cap' = cap := by omega
          subst this
          exact own_prefix h1 hk
    · exact (Only.of_grown h2).owns hs (fun b hb' e => hsg (by rw [hb']; simpa using e))

theorem wpList_append_mark {P : Program} (w : World) {ops : Array Oper} {rest : List Oper} {o : Oper} {a : Act} {Q : Exit → Act → World → Prop}
    (hg : o.guard = none) (s y : Operand) (t : TypeId) (hop : o.op = Op.call { callee := Callee.builtin Builtin.append, args := #[s, y], argTypes := #[t, t] })
    (base : Nat) (e : TypeId) (i : TypeInfo) (z : Value) (bytes : Nat) (h1 : P.underlying t = some (.slice e)) (h2 : P.info? e = some i) (h3 : i.zero = some z) (h4 : i.size = 1) (h5 : i.bytes = bytes) (h6 : z.cells.size = 1)
    (v : Value) (n : Nat) (x : Value) (hs : a.eval s = v) (hown : w.ownsRow base e 1 v n (List.replicate n x)) (ad : Addr) (m c : Nat) (hx : a.eval y = .slice (some ad) m c)
    (hc : ∀ j, j < m → w.cell? (ad.add j) = some x) (h1c : x.oneCell' = true) (hm : 0 < m) (b1 : n + m ≤ maxLen) (b2 : (n + m) * bytes ≤ 140737488355328) (hb : base ≤ w.heap.size)
    (hK : ∀ g cap w', w'.ownsRow base e 1 (.slice (some ⟨g, 0, none⟩) (n + m) cap) (n + m) (List.replicate (n + m) x) → (∀ s k, k ≤ n + m → w.ownsRow base e 1 s k (List.replicate k x) → w'.ownsRow base e 1 s k (List.replicate k x)) →
      Only (fun b => v.ownBlock = some b) w w' → (v.ownBlock = some g ∨ w.heap.size ≤ g) → wpList P ops Q rest (a.put o.dst (.slice (some ⟨g, 0, none⟩) (n + m) cap)) w') :
    wpList P ops Q (o :: rest) a w := by
  have hcs : ∀ j u, (List.replicate m x)[j]? = some u → w.cell? (ad.add j) = some u := by
    intro j u hj
    obtain ⟨hjl, rfl⟩ := List.getElem?_eq_some_iff.1 hj
    rw [List.getElem_replicate]
    exact hc j (by simpa using hjl)
  have hnews : ∀ u ∈ List.replicate m x, u.oneCell' = true := fun u hu => by rw [(List.mem_replicate.1 hu).2]; exact h1c
  have fin : ∀ v' w', ((w'.ownsRow w.heap.size e 1 v' (n + m) (List.replicate n x ++ List.replicate m x) ∧ w.grownBy w' none) ∨ (∃ g cap, v = .slice (some ⟨g, 0, none⟩) n cap ∧ v' = .slice (some ⟨g, 0, none⟩) (n + m) cap ∧ w'.ownsRow base e 1 v' (n + m) (List.replicate n x ++ List.replicate m x) ∧ w.grownBy w' (some g))) →
      wpList P ops Q rest (a.put o.dst v') w' := by
    intro v' w' h
    obtain ⟨g, cap, rfl, r1, r2, r3, r4⟩ := append_mark hm hown hb h
    exact hK g cap w' r1 r2 r3 r4
  rcases hown.2 with ⟨hv, rfl⟩ | ⟨g, cap, cur, hv, hbg, hgg, hnc, hcm, hcs', htake⟩
  · refine wpList_append_grows w hg s y t hop e i z 1 bytes h1 h2 h3 h4 h5 h6 (by omega) none 0 0 (List.replicate 0 x) (by rw [hs, hv]) (fun _ => ⟨rfl, rfl⟩) (by simp) (fun b hb => by simp at hb) ad m c (List.replicate m x) hx (by simp) hcs hnews (by omega) b1 b2 ?_
    intro v' w' r1 r2
    exact fin v' w' (.inl ⟨r1, r2⟩)
  · by_cases hroom : n + m ≤ cap
    · refine wpList_append_fits w hg s y t hop base e i 1 h1 h2 h4 g n cap (List.replicate n x) (by rw [hs, hv]) (by rw [← hv]; exact hown) ad m c (List.replicate m x) hx (by simp) hcs hnews hroom ?_
      intro w' r1 r2
      exact fin _ w' (.inr ⟨g, cap, hv, rfl, r1, r2⟩)
    · refine wpList_append_grows w hg s y t hop e i z 1 bytes h1 h2 h3 h4 h5 h6 (by omega) (some ⟨g, 0, none⟩) n cap (List.replicate n x) (by rw [hs, hv]) (fun h => by simp at h) (by simp) (fun b hb j u hj => ?_) ad m c (List.replicate m x) hx (by simp) hcs hnews (by omega) b1 b2 ?_
      · simp at hb
        subst hb
        rw [add_eq, Nat.zero_add]
        have hjl := (List.getElem?_eq_some_iff.1 hj).1
        simp at hjl
        subst hv
        rw [hown.cellAt j (by omega), hj]
      · intro v' w' r1 r2
        exact fin v' w' (.inl ⟨r1, r2⟩)

/-- The block that is laid for what is appended. -/
theorem cells_new (w : World) (e : TypeId) (x : Value) (m : Nat) (cs : Array Value) (hcs : cs = (List.replicate m x).toArray) : ∀ j, j < m → (w.alloc (.cells cs e)).cell? ((⟨w.heap.size, 0, none⟩ : Addr).add j) = some x := by
  intro j hj
  subst hcs
  rw [add_eq, Nat.zero_add]
  have h := heap_alloc_new w (.cells (List.replicate m x).toArray e)
  rw [cell_of_row _ _ j _ e (0, 0) h]
  simp [hj]

end Go.Proofs.YtkgjpfamjedncaaGreat
