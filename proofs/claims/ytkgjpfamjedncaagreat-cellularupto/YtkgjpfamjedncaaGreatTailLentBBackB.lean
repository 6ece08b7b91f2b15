/-
  Rows with a tail, rows that are written over, rows of one value again and again, which are appended to.
-/
/-
  Bytes that are lent to the program, and come back.
-/
/-
  Bytes that come back from the program; an image that grows; two votes that are one.
-/
import Derived.Test.YtkgjpfamjedncaaGreatVOpenVFurVCallsApartStr
import Derived.ArgAppend
import Derived.OwnWalk
import Derived.Lib.BufferWrite
namespace Go.Proofs.YtkgjpfamjedncaaGreat
open Go.RowKit

/-- A row behind j places of its end: those are x, the others are z. -/
def tailed (A : List Value) (x z : Value) (j m : Nat) : List Value := A ++ (List.replicate j x ++ List.replicate (m - j) z)
theorem tailed_set (A : List Value) (x z : Value) (j m : Nat) (h : j < m) : (tailed A x z j m).set (A.length + j) x = tailed A x z (j + 1) m := by
  unfold tailed
  apply List.ext_getElem
  · simp; omega
  · intro i h1 h2
    rw [List.getElem_set]
    simp only [List.getElem_append, List.getElem_replicate, List.length_replicate]
    split
    · rename_i e
      subst e
      rw [dif_neg (by omega), dif_pos (by omega)]
    · rename_i e
      by_cases hA : i < A.length
      · rw [dif_pos hA, dif_pos hA]
      · rw [dif_neg hA, dif_neg hA]
        by_cases hj : i - A.length < j
        · rw [dif_pos hj, dif_pos (by omega)]
        · rw [dif_neg hj, dif_neg (by omega)]
theorem tailed_len (A : List Value) (x z : Value) (j m : Nat) (h : j ≤ m) : (tailed A x z j m).length = A.length + m := by simp [tailed]; omega

/-- A row of which the first k places have been written over. -/
def over (A : List Value) (y : Value) (k : Nat) : List Value := List.replicate k y ++ A.drop k
theorem over_len (A : List Value) (y : Value) (k : Nat) (h : k ≤ A.length) : (over A y k).length = A.length := by simp [over]; omega
theorem over_get (A : List Value) (y : Value) (k : Nat) : (over A y k)[k]? = A[k]? := by
  unfold over
  rw [List.getElem?_append_right (by simp)]
  simp
theorem over_set (A : List Value) (y : Value) (k : Nat) (h : k < A.length) : (over A y k).set k y = over A y (k + 1) := by
  unfold over
  apply List.ext_getElem?
  intro i
  by_cases e : i = k
  · subst e
    rw [List.getElem?_set_self (by simp; omega), List.getElem?_append_left (by simp)]
    simp
  · rw [List.getElem?_set_ne (by omega)]
    by_cases l : i < k
    · rw [List.getElem?_append_left (by simpa using l), List.getElem?_append_left (by simp; omega)]
      rw [List.getElem?_replicate, List.getElem?_replicate, if_pos l, if_pos (by omega)]
    · rw [List.getElem?_append_right (by simp; omega), List.getElem?_append_right (by simp; omega)]
      simp
      congr 1
      omega
theorem tailed_get (A : List Value) (x z : Value) (k : Nat) (h : A.length ≤ k) (h' : k < A.length + 8) : (tailed A x z 8 8)[k]? = some x := by
  unfold tailed
  rw [List.getElem?_append_right h, List.getElem?_append_left (by simp; omega), List.getElem?_replicate, if_pos (by omega)]

theorem own_prefix {w : World} {base : Nat} {e : TypeId} {g q cap k : Nat} {x : Value} (h : w.ownsRow base e 1 (.slice (some ⟨g, 0, none⟩) q cap) q (List.replicate q x)) (hk : k ≤ q) : w.ownsRow base e 1 (.slice (some ⟨g, 0, none⟩) k cap) k (List.replicate k x) := by
  rcases h.2 with ⟨h', _⟩ | ⟨g', cap', cur, h', hb, hg, hc, hm, hs, htake⟩
  · simp at h'
  · simp only [Value.slice.injEq, Option.some.injEq, Addr.mk.injEq, and_true, true_and] at h'
    obtain ⟨rfl, rfl⟩ := h'
    refine ⟨by simp, .inr ⟨g, cap, cur, rfl, hb, hg, by omega, hm, hs, ?_⟩⟩
    have : cur.toList.take (k * 1) = (cur.toList.take (q * 1)).take k := by rw [List.take_take]; congr 1; omega
    rw [this, htake, List.take_replicate]
    congr 1
    omega

theorem append_mark {w : World} {base : Nat} {e : TypeId} {x : Value} {v : Value} {n m : Nat} (hm : 0 < m) (hown : w.ownsRow base e 1 v n (List.replicate n x)) {w' : World} {v' : Value} (hb : base ≤ w.heap.size)
    (h : (w'.ownsRow w.heap.size e 1 v' (n + m) (List.replicate n x ++ List.replicate m x) ∧ w.grownBy w' none) ∨ (∃ g cap, v = .slice (some ⟨g, 0, none⟩) n cap ∧ v' = .slice (some ⟨g, 0, none⟩) (n + m) cap ∧ w'.ownsRow base e 1 v' (n + m) (List.replicate n x ++ List.replicate m x) ∧ w.grownBy w' (some g))) :
    ∃ g cap, v' = .slice (some ⟨g, 0, none⟩) (n + m) cap ∧ w'.ownsRow base e 1 v' (n + m) (List.replicate (n + m) x) ∧ (∀ s k, k ≤ n + m → w.ownsRow base e 1 s k (List.replicate k x) → w'.ownsRow base e 1 s k (List.replicate k x)) ∧
      Only (fun b => v.ownBlock = some b) w w' ∧ (v.ownBlock = some g ∨ w.heap.size ≤ g) := by
  rw [List.replicate_append_replicate] at h
  rcases h with ⟨h1, h2⟩ | ⟨g, cap, rfl, rfl, h1, h2⟩
  · obtain ⟨g, cap, rfl⟩ := own_shape h1 (by omega)
    refine ⟨g, cap, rfl, ownsRow_base h1 (fun b hb' => by have := (h1.lt b hb').1; omega), fun s k _ hs => (Only.of_grown h2).owns hs (fun b _ e => by simp at e), (Only.of_grown h2).mono (fun k _ e => by simp at e), .inr (h1.lt g rfl).1⟩
  · refine ⟨g, cap, rfl, h1, fun s k hk hs => ?_, (Only.of_grown h2).mono (fun k _ e => by simp [Value.ownBlock]; simpa using e.symm), .inl rfl⟩
    by_cases hsg : s.ownBlock = some g
    · rcases hs.2 with ⟨rfl, rfl⟩ | ⟨g', cap', cur, rfl, hb', hg', hc', hm', hs', _⟩
      · simp [Value.ownBlock] at hsg
      · simp [Value.ownBlock] at hsg
        subst hsg
        rcases hown.2 with ⟨h', _⟩ | ⟨g2, cap2, cur2, h', _, hg2, _, _, hs2, _⟩
        · simp at h'
        · simp only [Value.slice.injEq, Option.some.injEq, Addr.mk.injEq, and_true, true_and] at h'
          obtain ⟨rfl, rfl⟩ := h'
          rw [hg'] at hg2
          simp at hg2
          subst hg2
          have : cap' = cap := by omega
          subst this
          exact own_prefix h1 hk
    · exact (Only.of_grown h2).owns hs (fun b hb' e => hsg (by rw [hb']; simpa using e))

theorem wpList_append_mark {P : Program} (w : World) {ops : Array Oper} {rest : List Oper} {o : Oper} {a : Act} {Q : Exit → Act → World → Prop}
    (hg : o.guard = none) (s y : Operand) (t : TypeId) (hop : o.op = Op.call { callee := Callee.builtin Builtin.append, args := #[s, y], argTypes := #[t, t] })
    (base : Nat) (e : TypeId) (i : TypeInfo) (z : Value) (bytes : Nat) (h1 : P.underlying t = some (.slice e)) (h2 : P.info? e = some i) (h3 : i.zero = some z) (h4 : i.size = 1) (h5 : i.bytes = bytes) (h6 : z.cells.size = 1)
    (v : Value) (n : Nat) (x : Value) (hs : a.eval s = v) (hown : w.ownsRow base e 1 v n (List.replicate n x)) (ad : Addr) (m c : Nat) (hx : a.eval y = .slice (some ad) m c)
    (hc : ∀ j, j < m → w.cell? (ad.add j) = some x) (h1c : x.oneCell' = true) (hm : 0 < m) (b1 : n + m ≤ maxLen) (b2 : (n + m) * bytes ≤ 140737488355328) (hb : base ≤ w.heap.size)
    (hK : ∀ g cap w', w'.ownsRow base e 1 (.slice (some ⟨g, 0, none⟩) (n + m) cap) (n + m) (List.replicate (n + m) x) → (∀ s k, k ≤ n + m → w.ownsRow base e 1 s k (List.replicate k x) → w'.ownsRow base e 1 s k (List.replicate k x)) →
      Only (fun b => v.ownBlock = some b) w w' → (v.ownBlock = some g ∨ w.heap.size ≤ g) → wpList P ops Q rest (a.put o.dst (.slice (some ⟨g, 0, none⟩) (n + m) cap)) w') :
    wpList P ops Q (o :: rest) a w := by
  have hcs : ∀ j u, (List.replicate m x)[j]? = some u → w.cell? (ad.add j) = some u := by
    intro j u hj
    obtain ⟨hjl, rfl⟩ := List.getElem?_eq_some_iff.1 hj
    rw [List.getElem_replicate]
    exact hc j (by simpa using hjl)
  have hnews : ∀ u ∈ List.replicate m x, u.oneCell' = true := fun u hu => by rw [(List.mem_replicate.1 hu).2]; exact h1c
  have fin : ∀ v' w', ((w'.ownsRow w.heap.size e 1 v' (n + m) (List.replicate n x ++ List.replicate m x) ∧ w.grownBy w' none) ∨ (∃ g cap, v = .slice (some ⟨g, 0, none⟩) n cap ∧ v' = .slice (some ⟨g, 0, none⟩) (n + m) cap ∧ w'.ownsRow base e 1 v' (n + m) (List.replicate n x ++ List.replicate m x) ∧ w.grownBy w' (some g))) →
      wpList P ops Q rest (a.put o.dst v') w' := by
    intro v' w' h
    obtain ⟨g, cap, rfl, r1, r2, r3, r4⟩ := append_mark hm hown hb h
    exact hK g cap w' r1 r2 r3 r4
  rcases hown.2 with ⟨hv, rfl⟩ | ⟨g, cap, cur, hv, hbg, hgg, hnc, hcm, hcs', htake⟩
  · refine wpList_append_grows w hg s y t hop e i z 1 bytes h1 h2 h3 h4 h5 h6 (by omega) none 0 0 (List.replicate 0 x) (by rw [hs, hv]) (fun _ => ⟨rfl, rfl⟩) (by simp) (fun b hb => by simp at hb) ad m c (List.replicate m x) hx (by simp) hcs hnews (by omega) b1 b2 ?_
    intro v' w' r1 r2
    exact fin v' w' (.inl ⟨r1, r2⟩)
  · by_cases hroom : n + m ≤ cap
    · refine wpList_append_fits w hg s y t hop base e i 1 h1 h2 h4 g n cap (List.replicate n x) (by rw [hs, hv]) (by rw [← hv]; exact hown) ad m c (List.replicate m x) hx (by simp) hcs hnews hroom ?_
      intro w' r1 r2
      exact fin _ w' (.inr ⟨g, cap, hv, rfl, r1, r2⟩)
    · refine wpList_append_grows w hg s y t hop e i z 1 bytes h1 h2 h3 h4 h5 h6 (by omega) (some ⟨g, 0, none⟩) n cap (List.replicate n x) (by rw [hs, hv]) (fun h => by simp at h) (by simp) (fun b hb j u hj => ?_) ad m c (List.replicate m x) hx (by simp) hcs hnews (by omega) b1 b2 ?_
      · simp at hb
        subst hb
        rw [add_eq, Nat.zero_add]
        have hjl := (List.getElem?_eq_some_iff.1 hj).1
        simp at hjl
        subst hv
        rw [hown.cellAt j (by omega), hj]
      · intro v' w' r1 r2
        exact fin v' w' (.inl ⟨r1, r2⟩)

/-- The block that is laid for what is appended. -/
theorem cells_new (w : World) (e : TypeId) (x : Value) (m : Nat) (cs : Array Value) (hcs : cs = (List.replicate m x).toArray) : ∀ j, j < m → (w.alloc (.cells cs e)).cell? ((⟨w.heap.size, 0, none⟩ : Addr).add j) = some x := by
  intro j hj
  subst hcs
  rw [add_eq, Nat.zero_add]
  have h := heap_alloc_new w (.cells (List.replicate m x).toArray e)
  rw [cell_of_row _ _ j _ e (0, 0) h]
  simp [hj]

/-- Four lists of one number again and again. -/
structure MarkI (w : World) (base n : Nat) (e : TypeId) (x v o1 o2 o3 : Value) : Prop where
  h0 : w.ownsRow base e 1 v n (List.replicate n x)
  h1 : w.ownsRow base e 1 o1 (n + 1) (List.replicate (n + 1) x)
  h2 : w.ownsRow base e 1 o2 (n + 2) (List.replicate (n + 2) x)
  h3 : w.ownsRow base e 1 o3 (n + 3) (List.replicate (n + 3) x)

end Go.Proofs.YtkgjpfamjedncaaGreat

namespace Go.Proofs.YtkgjpfamjedncaaGreat
open Go.RowKit

theorem Tryz.size5 : (Tryz.prog.info? 5).map (·.size) = some 1 := by kernel_rfl
def Byt (ys : List Int) : Prop := ∀ d ∈ ys, 0 ≤ d ∧ d ≤ 255
theorem byteCells_strOf (ys : List Int) (h : Byt ys) : Lib.byteCells (strOf ys).data.toList = ys.map B8 := by
  rw [strOf_list]
  unfold Lib.byteCells
  rw [List.map_map]
  refine List.map_congr_left fun d hd => ?_
  have := h d hd
  simp only [Function.comp, B8, UInt8.toNat_ofNat']
  congr 1
  omega

/-- Bytes that were lent: eight places behind them hold 77. -/
def LentB (base : Nat) (w : World) (r : Value) (ys : List Int) : Prop :=
  (r = .slice none 0 0 ∧ ys = []) ∨
  ∃ g, r = .slice (some ⟨g, 0, none⟩) ys.length (ys.length + 8) ∧ w.ownsRow base 5 1 (.slice (some ⟨g, 0, none⟩) (ys.length + 8) (ys.length + 8)) (ys.length + 8) (tailed (ys.map B8) (B8 77) (B8 0) 8 8)
theorem LentB.only {S : Nat → Prop} {base : Nat} {w w' : World} {r : Value} {ys : List Int} (h : LentB base w r ys) (ho : Only S w w') (hs : ∀ b, r.ownBlock = some b → ¬ S b) : LentB base w' r ys := by
  rcases h with h | ⟨g, rfl, h⟩
  · exact .inl h
  · exact .inr ⟨g, rfl, ho.owns h fun b hb => hs b hb⟩
theorem LentB.bl {base : Nat} {w w' : World} {r : Value} {ys : List Int} (h : LentB base w r ys) (ho : Bl w w') : LentB base w' r ys := h.only (Only.of_bl (S := fun _ => False) ho) fun _ _ e => e
theorem LentB.lt {base : Nat} {w : World} {r : Value} {ys : List Int} (h : LentB base w r ys) (b : Nat) (hb : r.ownBlock = some b) : base ≤ b ∧ b < w.heap.size := by
  rcases h with ⟨rfl, _⟩ | ⟨g, rfl, h⟩
  · simp [Value.ownBlock] at hb
  · exact h.lt b hb
theorem LentB.own {base : Nat} {w : World} {r : Value} {ys : List Int} (h : LentB base w r ys) : w.ownsRow base 5 1 r ys.length (ys.map B8) := by
  rcases h with ⟨rfl, rfl⟩ | ⟨g, rfl, h⟩
  · exact World.ownsRow_nil _ _ _ _
  · have := ownsRow_cut h ys.length (by omega)
    rwa [tailed, List.take_append_of_le_length (by simp), List.take_of_length_le (by simp)] at this

set_option maxRecDepth 100000 in
set_option maxHeartbeats 1000000 in
theorem lent_any (ys : List Int) (none' : Bool) (w : World) (hy : Byt ys) (hs : ys.length ≤ 30000000) :
    Calls Tryz.prog 30 #[.string (strOf ys), .bool none'] w fun e w' => ∃ r, e = .returned r ∧ Bl w w' ∧ LentB w.heap.size w' r ys := by
  have hsz := strOf_size ys
  by_cases hz : ys = [] ∧ none' = true
  · obtain ⟨rfl, rfl⟩ := hz
    have e2 : (strOf []).toList.isEmpty = true := by rw [Go.ByteArray.toList_eq, strOf_list]; rfl
    clear hsz
    go_enter Tryz.func30, Tryz.ntmps30
    go_wp2
    go_ret
    exact ⟨_, rfl, Bl.refl _, .inl ⟨rfl, rfl⟩⟩
  · obtain ⟨i5, ji, jz0, jz1, jz2⟩ := info_parts Tryz.info5
    have hby : Hid (i5.bytes * (ys.length + 8) ≤ 281474976710656) := by rw [jz2]; unfold Hid; omega
    have hml : Hid (ys.length + 8 ≤ maxLen) := by unfold Hid maxLen; omega
    have Hbc := hid (byteCells_strOf ys hy)
    have e2 : ((strOf ys).toList.isEmpty && none') = false := by
      rw [Go.ByteArray.toList_eq, strOf_list]
      cases ys with
      | nil => cases none' with
        | false => rfl
        | true => exact absurd ⟨rfl, rfl⟩ hz
      | cons a b => rfl
    have hcase : (strOf ys).toList.isEmpty = false ∨ ((strOf ys).toList.isEmpty = true ∧ none' = false) := by
      cases h1 : (strOf ys).toList.isEmpty with
      | false => exact .inl rfl
      | true => rw [h1] at e2; exact .inr ⟨rfl, by simpa using e2⟩
    have Hsz := hid hsz
    have hszI : ((strOf ys).size : Int) = ys.length := by rw [hsz]
    clear hz hy e2 hsz
    generalize strOf ys = st at *
    rcases hcase with e2 | ⟨e2, rfl⟩
    all_goals
      go_enter Tryz.func30, Tryz.ntmps30
      go_wp2_with (first | (at_make; refine wpList_make_full _ rfl _ _ 40 rfl w.heap.size 5 i5 _ 1 Tryz.underlying40 ji jz0 jz1 _ _ _ _ (ys.length + 8) rfl rfl (by omega) (by omega) hby.out hml.out (by simp) ?_))
      intro w1 hown hgrow
      have hbl := (Only.of_grown hgrow).to_bl (by simp)
      have hheap : w1.heap[w.heap.size]? = some (.cells (List.replicate (ys.length + 8) (Value.int .u8 0)).toArray 5 (0, 0)) := by
        have := ownsRow_full hown
        rwa [toList_madeCells_one] at this
      have hcp := Lib.run_copy_row_string (P := Tryz.prog) w1 40 9 3 5 w.heap.size 0 (ys.length + 8) (ys.length + 8) st _ 5 Tryz.underlying40 Tryz.size5 hheap (by rw [Hsz.out]; omega) (by rw [Hsz.out]; simp)
      have hrow : (w1.setRow w.heap.size ((List.replicate (ys.length + 8) (Value.int .u8 0)).toArray.toList.take 0 ++ Lib.byteCells st.data.toList ++ (List.replicate (ys.length + 8) (Value.int .u8 0)).toArray.toList.drop (0 + st.size)).toArray).ownsRow w.heap.size 5 1 (.slice (some ⟨w.heap.size, 0, none⟩) (ys.length + 8) (ys.length + 8)) (ys.length + 8) (tailed (ys.map B8) (B8 77) (B8 0) 0 8) := by
        refine ownsRow_heap ?_ (Nat.le_refl _) (by simp [tailed]) hml.out
        rw [setRow_heap w1 w.heap.size _ _ 5 (0, 0) hheap, Hbc.out, Hsz.out]
        simp [tailed, B8]
      have hbl2 : Bl w (w1.setRow w.heap.size ((List.replicate (ys.length + 8) (Value.int .u8 0)).toArray.toList.take 0 ++ Lib.byteCells st.data.toList ++ (List.replicate (ys.length + 8) (Value.int .u8 0)).toArray.toList.drop (0 + st.size)).toArray) := below_setRow hbl (Nat.le_refl _) _
      generalize w1.setRow w.heap.size ((List.replicate (ys.length + 8) (Value.int .u8 0)).toArray.toList.take 0 ++ Lib.byteCells st.data.toList ++ (List.replicate (ys.length + 8) (Value.int .u8 0)).toArray.toList.drop (0 + st.size)).toArray = w2 at *
      have Hrow := hid hrow
      have Hbl2 := hid hbl2
      clear hrow hbl2 hbl hown hgrow hheap
      go_wp2
      go_loopw [6] (fun i wr => ∃ k j : Nat, Hid (k = ys.length + j) ∧ j ≤ 8 ∧ i = .int .i64 k ∧ Bl w wr ∧ wr.ownsRow w.heap.size 5 1 (.slice (some ⟨w.heap.size, 0, none⟩) (ys.length + 8) (ys.length + 8)) (ys.length + 8) (tailed (ys.map B8) (B8 77) (B8 0) j 8)) (fun i _ => ys.length + 8 - (intOf i).toNat)
      case atStart => exact ⟨ys.length, 0, hid (by omega), by omega, rfl, Hbl2.out, Hrow.out⟩
      case round =>
        clear Hrow Hbl2
        obtain ⟨k, j, Hk, hj, rfl, hbl, hown⟩ := hrel
        have Hown := hid hown
        clear hown
        have hk1 : ys.length ≤ k := by have := Hk.out; omega
        by_cases hlt : j < 8
        · have hk2 : k < ys.length + 8 := by have := Hk.out; omega
          have hst := Hown.out.stored k (.int .u8 77)
          obtain ⟨old, hcell⟩ := own_cell Hown.out k hk2
          have hfro := Hown.out.frozenAt k
          have H1 := hid hst.1
          rw [show (tailed (ys.map B8) (B8 77) (B8 0) j 8).set k (.int .u8 77) = tailed (ys.map B8) (B8 77) (B8 0) (j + 1) 8 from by rw [Hk.out, ← tailed_set _ _ _ _ _ hlt]; simp [B8]] at H1
          have H2 := hid (hbl.trans_only (Only.of_grown hst.2) (fun n hn => by cases hn; exact Nat.le_refl _))
          clear hst Hown
          go_wp2
          go_roundw
          case rel => exact ⟨k + 1, j + 1, hid (by have := Hk.out; omega), by omega, by go_num, H2.out, H1.out⟩
          case measure => simp [intOf]; omega
        · have hj8 : j = 8 := by omega
          subst hj8
          have hk2 : ¬ k < ys.length + 8 := by have := Hk.out; omega
          go_wp2
          go_ret
          exact ⟨_, rfl, hbl, .inr ⟨_, rfl, Hown.out⟩⟩
end Go.Proofs.YtkgjpfamjedncaaGreat

namespace Go.Proofs.YtkgjpfamjedncaaGreat
open Go.RowKit
attribute [local go_sem ↓] Go.wp_at_zero Go.wp_at_succ

set_option maxRecDepth 100000 in
set_option maxHeartbeats 1000000 in
theorem back_any (base : Nat) (r : Value) (ys : List Int) (w : World) (hr : LentB base w r ys) (hs : ys.length ≤ 30000000) :
    Calls Tryz.prog 38 #[r, .string (strOf ys)] w fun e w' => e = .returned (.bool true) ∧ Only (fun k => r.ownBlock = some k) w w' := by
  have hnil := Tryz.nil40
  have hsz := strOf_size ys
  have kc := conv_any r ys w (ownsRow_sl hr.own)
  rcases hr with ⟨rfl, rfl⟩ | ⟨g, rfl, hown⟩
  · have e2 : (strOf []).toList.isEmpty = true := by rw [Go.ByteArray.toList_eq, strOf_list]; rfl
    clear kc hsz
    go_enter Tryz.func38, Tryz.ntmps38
    go_wp2
    go_ret
    exact ⟨rfl, Only.refl _ _⟩
  · have Hown := hid hown
    have hszI : ((strOf ys).size : Int) = ys.length := by rw [hsz]
    clear hown hsz
    generalize strOf ys = st at *
    generalize hT : tailed (ys.map B8) (B8 77) (B8 0) 8 8 = T at *
    have hTl : Hid (T.length = ys.length + 8) := by unfold Hid; rw [← hT, tailed_len _ _ _ _ _ (by omega)]; simp
    have hTg : Hid (∀ k, ys.length ≤ k → k < ys.length + 8 → T[k]? = some (.int .u8 77)) := by
      intro k h1 h2; rw [← hT]; exact tailed_get _ _ _ k (by simpa using h1) (by simpa using h2)
    have HT := hid hT
    clear hT HT
    go_enter Tryz.func38, Tryz.ntmps38
    go_wp2
    go_loopw [5, 7] (fun ok i wr => ∃ k : Nat, k ≤ ys.length + 8 ∧ i = .int .i64 k ∧ ok = .bool true ∧ Only (fun b => some g = some b) w wr ∧ wr.ownsRow base 5 1 (.slice (some ⟨g, 0, none⟩) (ys.length + 8) (ys.length + 8)) (ys.length + 8) (over T (.int .u8 78) k)) (fun _ i _ => ys.length + 8 - (intOf i).toNat)
    case atStart => exact ⟨0, by omega, rfl, rfl, Only.refl _ _, by simpa [over] using Hown.out⟩
    case round =>
      clear Hown
      obtain ⟨k, hk, rfl, rfl, ho, hown⟩ := hrel
      have Hown := hid hown
      have Ho := hid ho
      clear hown ho kc
      by_cases hlt : k < ys.length + 8
      · have hst := Hown.out.stored k (.int .u8 78)
        rw [over_set _ _ _ (by rw [hTl.out]; exact hlt)] at hst
        have H1 := hid hst.1
        have H2 := hid (Ho.out.setCell ⟨g, k, none⟩ (.inl rfl) (.int .u8 78))
        have hfro := Hown.out.frozenAt k
        have hcell := Hown.out.cellAt k (by omega)
        rw [over_get] at hcell
        clear hst
        by_cases hlz : k < ys.length
        · rw [List.getElem?_eq_getElem (by rw [hTl.out]; exact hlt)] at hcell
          generalize T[k]'(by rw [hTl.out]; exact hlt) = old at hcell
          clear Hown
          go_wp2
          go_roundw
          case rel => exact ⟨k + 1, by omega, by go_num, rfl, H2.out, H1.out⟩
          case measure => simp [intOf]; omega
        · rw [hTg.out k (by omega) hlt] at hcell
          clear Hown
          go_wp2
          go_roundw
          case rel => exact ⟨k + 1, by omega, by go_num, rfl, H2.out, H1.out⟩
          case measure => simp [intOf]; omega
      · go_wp2
        go_ret
        exact ⟨rfl, Ho.out⟩

theorem slice_cut {w : World} {base n c m : Nat} {a : Option Addr} {xs : List Value} (h : w.ownsRow base 5 1 (.slice a n c) n xs) (hm : m ≤ n) : Sl w (.slice a m c) (xs.take m) := by
  have hl := ownsRow_len h
  rcases h.2 with ⟨h', hz⟩ | ⟨g, cap, cur, h', hb, hg, hc, hmm, hs, ht⟩
  · simp only [Value.slice.injEq] at h'
    obtain ⟨rfl, rfl, rfl⟩ := h'
    obtain rfl : m = 0 := by omega
    exact .inl ⟨_, _, rfl, by simp⟩
  · simp only [Value.slice.injEq] at h'
    obtain ⟨rfl, _, rfl⟩ := h'
    by_cases h0 : m = 0
    · subst h0; exact .inl ⟨_, _, rfl, by simp⟩
    · refine .inr ⟨g, 0, c, by rw [List.length_take]; congr 1; omega, (h.lt g rfl).2, fun j hj => ?_⟩
      rw [List.length_take] at hj
      rw [Nat.zero_add, h.cellAt j (by omega), List.getElem_take, List.getElem?_eq_getElem]

set_option maxRecDepth 100000 in
set_option maxHeartbeats 1000000 in
/-- The image goes on. -/
theorem grows_any (ba bb : Nat) (a b : Value) (xs ys : List Int) (w : World) (ha : w.ownsRow ba 5 1 a xs.length (xs.map B8)) (hb : w.ownsRow bb 5 1 b (xs.length + ys.length) ((xs ++ ys).map B8)) (hl : xs.length + ys.length ≤ 40000000) :
    Calls Tryz.prog 49 #[a, b] w fun e w' => e = .returned (.bool true) ∧ Bl w w' := by
  obtain ⟨aa, ac, rfl⟩ := owned_slice' ha
  obtain ⟨ab, bc, rfl⟩ := owned_slice' hb
  have k1 := fun W (hW : Bl w W) => conv_any _ xs W ((ownsRow_sl ha).bl hW)
  have hcut := slice_cut hb (m := xs.length) (by omega)
  rw [List.map_append, List.take_append_of_le_length (by simp), List.take_of_length_le (by simp)] at hcut
  have k2 := fun W (hW : Bl w W) => conv_any _ xs W (hcut.bl hW)
  have K1 := fun m => k1 (w.drewN m) ((Bl.refl w).drewN m)
  have K2 := fun m => k2 (w.drewN m) ((Bl.refl w).drewN m)
  have hbc : xs.length + ys.length ≤ bc ∧ (bc : Int) ≤ 9223372036854775807 ∧ (bc = 0 → xs.length = 0) := by
    rcases hb.2 with ⟨h', hz⟩ | ⟨g, cap, cur, h', _, _, hc, hm, _⟩
    · simp only [Value.slice.injEq] at h'
      obtain ⟨_, h1, rfl⟩ := h'
      exact ⟨by omega, by omega, fun _ => by omega⟩
    · simp only [Value.slice.injEq] at h'
      obtain ⟨_, _, rfl⟩ := h'
      unfold maxLen at hm
      exact ⟨hc, by omega, fun h => by omega⟩
  obtain ⟨b1, b2, b3⟩ := hbc
  clear k1 k2 hcut ha hb
  generalize strOf xs = st at *
  by_cases hc0 : bc = 0
  · subst hc0
    have hx0 := b3 rfl
    have hy0 : ys.length = 0 := by omega
    rw [hx0] at K1 K2
    rw [hx0, hy0]
    clear b1 b2 b3 hl hx0 hy0
    go_enter Tryz.func49, Tryz.ntmps49
    go_wp2_with fail
    go_quiet (fail)
    go_wp2
    go_ret
    exact ⟨rfl, (Bl.refl _).drewN _⟩
  · have hlI : (xs.length : Int) ≤ bc := by omega
    have hge : decide ((xs.length : Int) ≤ (xs.length : Int) + (ys.length : Int)) = true := by simp only [decide_eq_true_eq]; omega
    clear b3
    go_enter Tryz.func49, Tryz.ntmps49
    go_wp2_with fail
    go_quiet (fail)
    go_wp2
    go_ret
    exact ⟨rfl, (Bl.refl _).drewN _⟩

set_option maxRecDepth 100000 in
set_option maxHeartbeats 1000000 in
theorem sameVote_any (wh pr ba : Int) (u v : Value) (ys : List Int) (w : World) (hu : Sl w u (ys.map B8)) (hv : Sl w v (ys.map B8)) :
    Calls Tryz.prog 56 #[voteR wh pr ba u, voteR wh pr ba v] w fun e w' => e = .returned (.bool true) ∧ Bl w w' := by
  obtain ⟨a, c, e⟩ := hu.len
  obtain ⟨a', c', e'⟩ := hv.len
  have bA := ((Bl.refl w).alloc (.cells #[.int .i64 wh, .int .i64 pr, .int .i64 ba, u] 105)).alloc (.cells #[.int .i64 wh, .int .i64 pr, .int .i64 ba, v] 105)
  have k1 := conv_any u ys _ (hu.bl bA)
  have k2 := conv_any v ys _ (hv.bl bA)
  have HB := hid bA
  subst e e'
  simp only [List.length_map] at k1 k2 HB ⊢
  clear hu hv bA
  generalize strOf ys = st at *
  unfold voteR
  go_enter Tryz.func56, Tryz.ntmps56
  go_wp2
  go_ret
  exact ⟨rfl, HB.out⟩
end Go.Proofs.YtkgjpfamjedncaaGreat
