/-
  Layouts that come back.
-/
import Derived.Test.YtkgjpfamjedncaaGreatLentL
namespace Go.Proofs.YtkgjpfamjedncaaGreat
open Go.RowKit

theorem back_step {base : Nat} {wr w2 : World} {G : Nat} {ls : List Value} {L : List (List Int)} {ms : List Value} {k : Nat} (hll : ls.length = L.length) (hml : ms.length = L.length + 8) (hkm : k < ms.length)
    (hap : ∀ i j (hi : i < ms.length) (hj : j < ms.length) b, i < L.length + 8 → j < L.length + 8 → i ≠ j → ms[i].ownBlock = some b → ms[j].ownBlock ≠ some b)
    (hown : wr.ownsRow base 24 1 (.slice (some ⟨G, 0, none⟩) (L.length + 8) (L.length + 8)) (L.length + 8) (over ms (.slice none 0 0) k)) (hrow : ∀ i (h : i < ms.length), k ≤ i → Good base wr ls L i ms[i]) (ho : Only (fun b => ms[k].ownBlock = some b) wr w2) :
    w2.cell? ⟨G, k, none⟩ = some ms[k] ∧ w2.frozen? ⟨G, k, none⟩ = false ∧
    (w2.setCell ⟨G, k, none⟩ (.slice none 0 0)).ownsRow base 24 1 (.slice (some ⟨G, 0, none⟩) (L.length + 8) (L.length + 8)) (L.length + 8) (over ms (.slice none 0 0) (k + 1)) ∧
    ∀ i (h : i < ms.length), k + 1 ≤ i → Good base (w2.setCell ⟨G, k, none⟩ (.slice none 0 0)) ls L i ms[i] := by
  have hgk := hrow k hkm (Nat.le_refl _)
  have hown2 : w2.ownsRow base 24 1 (.slice (some ⟨G, 0, none⟩) (L.length + 8) (L.length + 8)) (L.length + 8) (over ms (.slice none 0 0) k) := ho.owns hown fun b hb e => hgk.ne hll hown b e (by simpa [Value.ownBlock] using hb.symm)
  obtain ⟨hst, hgr⟩ := hown2.stored k (.slice none 0 0)
  have hgr' := Only.of_grown hgr
  rw [over_set _ _ _ hkm] at hst
  refine ⟨?_, hown2.frozenAt k, hst, fun i hi hik => ?_⟩
  · rw [hown2.cellAt k (by omega), over_get, List.getElem?_eq_getElem hkm]
  · have h1 := hrow i hi (by omega)
    have h2 := h1.only ho fun b hb e => hap i k hi hkm b (by omega) (by omega) (by omega) hb e
    exact h2.only hgr' fun b hb e => h2.ne hll hown2 b hb (by simpa using e)

set_option maxRecDepth 100000 in
set_option maxHeartbeats 2000000 in
theorem backLayout_any (w0 w : World) (G : Nat) (v : Value) (ls : List Value) (L : List (List Int)) (ms : List Value) (S : Nat → Prop) (hb0 : Bl w0 w) (hK : LentK w0.heap.size w G ls L (L.length + 8) ms) (hv : Sl w0 v ls)
    (hr : ∀ i (h : i < ls.length) (h' : i < L.length), Sl w0 ls[i] (L[i].map (Value.int .i64))) (hn : L.length ≤ 4000000) (hs : ∀ c ∈ L, c.length ≤ 4000000) (hSG : S G) (hS : ∀ i (h : i < ms.length) b, ms[i].ownBlock = some b → S b) (hS0 : ∀ b, S b → w0.heap.size ≤ b) :
    Calls Tryz.prog 24 #[.slice (some ⟨G, 0, none⟩) L.length (L.length + 8), v] w fun e w' => e = .returned (.bool true) ∧ Only S w w' := by
  obtain ⟨a0, c0, hv0⟩ := hv.len
  rw [hK.ll] at hv0
  subst hv0
  have hml := hid (ownsRow_len hK.own)
  have Hv := hid hv
  have Hr := hid hr
  have Hs := hid hs
  have Hl := hid hK.ll
  have HSG := hid hSG
  have HS := hid hS
  have HS0 := hid hS0
  have Hb0 := hid hb0
  have Hap := hid hK.apart
  have Hown := hid hK.own
  have Hrow := hid hK.row
  clear hv hr hs hSG hS hS0 hb0 hK
  go_enter Tryz.func24, Tryz.ntmps24
  go_wp2
  go_loopw [6, 7] (fun ok i wr => ∃ k : Nat, k ≤ L.length + 8 ∧ i = .int .i64 k ∧ ok = .bool true ∧ Only S w wr ∧ wr.ownsRow w0.heap.size 24 1 (.slice (some ⟨G, 0, none⟩) (L.length + 8) (L.length + 8)) (L.length + 8) (over ms (.slice none 0 0) k) ∧
    ∀ i (h : i < ms.length), k ≤ i → Good w0.heap.size wr ls L i ms[i]) (fun _ i _ => L.length + 8 - (intOf i).toNat)
  case atStart => exact ⟨0, by omega, rfl, rfl, Only.refl _ _, by simpa [over] using Hown.out, fun i h _ => Hrow.out i h (by have := hml.out; omega)⟩
  case round =>
    clear Hown Hrow
    obtain ⟨k, hk, rfl, rfl, ho, hown, hrow⟩ := hrel
    have Ho := hid ho
    have Hown := hid hown
    have Hrow := hid hrow
    clear ho hown hrow
    by_cases hlt : k < L.length + 8
    · have hkm : k < ms.length := by rw [hml.out]; exact hlt
      have hg := hid (Hrow.out k hkm (Nat.le_refl _))
      have hcell := Hown.out.cellAt k (by omega)
      rw [over_get, List.getElem?_eq_getElem hkm] at hcell
      have hfro := Hown.out.frozenAt k
      by_cases hlL : k < L.length
      · have hlk : k < ls.length := by rw [Hl.out]; exact hlL
        have hI := hid (hg.out.1 hlL hlk)
        have hbw := hid (Hb0.out.trans_only Ho.out (fun n hn => HS0.out n hn))
        have hsl := hid ((Hr.out k hlk hlL).bl hbw.out)
        have hzl := Hs.out _ (List.getElem_mem hlL)
        rcases Hv.out with ⟨a9, c9, hv1, hv2⟩ | ⟨b1, o1, c1, hv1, hb1, hc1⟩
        · rw [hv2] at hlk; simp at hlk
        simp only [Value.slice.injEq] at hv1
        obtain ⟨rfl, hlx, rfl⟩ := hv1
        have hcv := (hbw.out.cell hb1).trans (hc1 k hlk)
        have hstep := hid (fun w2 => back_step (w2 := w2) Hl.out hml.out hkm Hap.out Hown.out Hrow.out)
        have HSk := hid (HS.out k hkm)
        obtain ⟨lk, hlk2⟩ : ∃ q, q = ls[k] := ⟨_, rfl⟩
        rw [← hlk2] at hcv hsl hI
        obtain ⟨zk, hzk⟩ : ∃ q, q = L[k] := ⟨_, rfl⟩
        rw [← hzk] at hsl hzl hI
        obtain ⟨mk, hmk⟩ : ∃ q, q = ms[k] := ⟨_, rfl⟩
        rw [← hmk] at hcell hI HSk hstep
        have Hmk := hid hmk
        clear hlx hc1 hlk2 hzk hmk hg
        obtain ⟨am, cm, hme⟩ := hI.out.sl.len
        simp only [List.length_map] at hme
        obtain ⟨al, cl, hle⟩ := hsl.out.len
        simp only [List.length_map] at hle
        have h1 : (k : Int) < ((L.length : Nat) : Int) := by omega
        have h1b : (k : Int) < (((L.length + 8 : Nat)) : Int) := by omega
        have h0 : (0 : Int) ≤ (k : Int) := by omega
        subst hme hle
        have hpart : ((zk.length : Int) == 1) = false ∨ (((zk.length : Int) == 1) = true ∧ ∃ bm z, am = some ⟨bm, 0, none⟩ ∧ wr.cell? ⟨bm, 0, none⟩ = some (.int .i64 z)) := by
          by_cases hz1 : zk.length = 1
          · right
            refine ⟨by simp [hz1], ?_⟩
            rcases hI.out with ⟨_, e, e'⟩ | ⟨a, c, g, e1, e2, ho⟩
            · simp [e'] at hz1
            · simp only [Value.slice.injEq] at e2
              obtain ⟨rfl, _, _⟩ := e2
              have hx := ho.cellAt 0 (by omega)
              refine ⟨g, zk[0]'(by omega), rfl, ?_⟩
              rw [hx, tailed, List.getElem?_append_left (by simp; omega)]
              simp [hz1]
          · left; simp; omega
        have hpart2 : ((zk.length : Int) == 1) = false ∨ (((zk.length : Int) == 1) = true ∧ ∃ bm z, am = some ⟨bm, 0, none⟩ ∧ wr.cell? ⟨bm, 0, none⟩ = some (.int .i64 z) ∧ (z == -77) = true ∧ 0 < zk.length) ∨ (((zk.length : Int) == 1) = true ∧ ∃ bm z, am = some ⟨bm, 0, none⟩ ∧ wr.cell? ⟨bm, 0, none⟩ = some (.int .i64 z) ∧ (z == -77) = false ∧ 0 < zk.length) := by
          rcases hpart with h | ⟨h, bm, z, e1, e2⟩
          · exact .inl h
          · cases hq : (z == -77)
            · exact .inr (.inr ⟨h, bm, z, e1, e2, hq, by have := eq_of_beq h; omega⟩)
            · exact .inr (.inl ⟨h, bm, z, e1, e2, hq, by have := eq_of_beq h; omega⟩)
        clear hpart
        rcases hpart2 with hp | ⟨hp, bm, z, rfl, hcz, hq, hzp⟩ | ⟨hp, bm, z, rfl, hcz, hq, hzp⟩
        all_goals
          go_wp2
          go_region_with (go_at_call 25; refine (backInts_any w0.heap.size _ _ _ _ (by exact hI.out.bl ((Bl.refl _).drewN _)) (by exact hsl.out.bl ((Bl.refl _).drewN _)) hzl).mono ?_; rintro e w2 ⟨rfl, ho2⟩)
          all_goals
            obtain ⟨kc, kf, H1, H2⟩ := hstep.out w2 (((Only.refl _ _).drew).trans ho2)
            have K1 := hid H1
            have K2 := hid H2
            have K3 := hid (((Ho.out.drew).trans (ho2.mono (fun b _ hb => HSk.out b hb))).setCell ⟨G, k, none⟩ (.inl HSG.out) (.slice none 0 0))
            clear H1 H2 hstep ho2 HSk hI hsl
            go_wp2
            go_roundw
            case rel => exact ⟨k + 1, by omega, by go_num, rfl, K3.out, K1.out, K2.out⟩
            case measure => simp [intOf]; omega
      · obtain ⟨g, hm, hrw⟩ := hg.out.2 (by omega)
        have hc0 := hrw
        rw [hm] at hcell
        rw [hm] at hc0
        have hcz := hc0.cellAt 0 (by omega)
        simp at hcz
        obtain ⟨_, _, H1, H2⟩ := back_step (w2 := wr) Hl.out hml.out hkm Hap.out Hown.out Hrow.out (Only.refl _ _)
        have K1 := hid H1
        have K2 := hid H2
        have K3 := hid (Ho.out.setCell ⟨G, k, none⟩ (.inl HSG.out) (.slice none 0 0))
        clear hm hc0 H1 H2 hrw hg
        go_wp2
        go_roundw
        case rel => exact ⟨k + 1, by omega, by go_num, rfl, K3.out, K1.out, K2.out⟩
        case measure => simp [intOf]; omega
    · go_wp2
      go_ret
      exact ⟨rfl, Ho.out⟩
end Go.Proofs.YtkgjpfamjedncaaGreat
