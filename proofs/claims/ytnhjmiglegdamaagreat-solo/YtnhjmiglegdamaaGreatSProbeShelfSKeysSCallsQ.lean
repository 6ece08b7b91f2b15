-- A client asks all units whether they are at a later epoch.
-- The library's sort, at this program.
-- The keys of the pending calls, sorted.
-- The pending calls, as a list; whether there are changes.
import Derived.Test.YtnhjmiglegdamaaGreatSWnDMapSEndSShelfSLayQ
import Derived.Shelf.Sort.Plain
import Derived.Test.YtnhjmiglegdamaaGreatProg
import Derived.Maps.Own
namespace Go.Proofs.YtnhjmiglegdamaaGreat
open Go.RowKit Go.Maps
attribute [local go_sem ↓] Go.wp_at_zero Go.wp_at_succ
def CX.probe (n m : Nat) (X : CX) : CX := { X with asked := X.asked + 1, pr := ⟨1, X.asked + 1, 0, no, allOf n m, true, []⟩ }
section
variable {w w0 w' : World} {tag tag' : Nat → Nat} {tc p q n m : Nat} {vo ce id : Int} {X X' : CX} {lv rv vv nv av pv vv' nv' av' ov cv ev ov' cv' ev' : Value} {bm born clk k gm : Nat} {c c' : PC}
set_option maxHeartbeats 1000000 in
theorem ClK.setPr (h : ClK w tag tc p q n m vo ce id X lv rv vv nv av bm born clk) (nr : Int) (nodes : List Int) (n2 : Value) (gm : Nat) (hn : Rd w tag tc 3 n2 (nodes.map (Value.int .i64))) (hg : w.heap[gm]? = some (.map #[] 0)) (tg : tag gm = tc) (g1 : gm ≠ bm) (hcall : ∀ c, X.pend = some c → CallB w tag tc q bm (.map (some gm)) X.res.length c) :
    ClK (puts w p 10 [.int .i64 1, .int .i64 nr, .int .i64 0, .int .i64 0, .int .i64 0, .int .i64 0, .int .i64 0, .slice none 0 0, n2, .bool true, .map (some gm)]) tag tc p q n m vo ce id { X with pr := ⟨1, nr, 0, no, nodes, true, []⟩ } lv rv (.slice none 0 0) n2 (.map (some gm)) bm born clk :=
  h.reP (puts_only (S := fun b => b = p) (.inl rfl) _ 10 w (Only.refl _ w)) (puts_heap _ 10 w _ h.hp) rfl rfl ⟨Rd.nil, hn, .inr ⟨gm, [], rfl, tg, hg, rfl, fun i z hz => by simp at hz⟩, fun e => by simp at e⟩ (fun b hb e => by simp at hb e; omega) hcall
theorem probe_mid1 {w2 : World} {g : Nat} {nr : Int} (hk : ClK w2 tag tc p q n m vo ce id X lv rv vv nv av bm born clk) (ht : tag g ≠ tc) : ClK (puts w2 g 0 [.int .i64 1, .int .i64 nr, .int .i64 0, .int .i64 0, .int .i64 0, .int .i64 0, .int .i64 0, .slice none 0 0]) tag tc p q n m vo ce id X lv rv vv nv av bm born clk :=
  hk.only (puts_only (S := fun b => b = g) (.inl rfl) _ 0 w2 (Only.refl _ w2)) (fun b _ e => by rw [e]; exact ht) (fun _ _ e => e)
set_option maxRecDepth 100000 in
set_option maxHeartbeats 4000000 in
theorem cl_startProbe (h : ClK w tag tc p q n m vo ce id X lv rv vv nv av bm born clk) (hf : fit n m vo ce = true) (ha : 0 ≤ X.asked) (hb : X.asked ≤ 1000000) :
    Calls Tryz.prog 156 #[.pointer (some ⟨p, 0, none⟩)] w fun en w' => en = .returned (.tuple #[]) ∧ CStep w tag tc p q n m vo ce id (X.probe n m) w' := by
  obtain ⟨f1, f2, _, _⟩ := fit_bd hf
  obtain ⟨f3, f4⟩ := fit_bd2 hf
  have HN : Hid (∀ W', Bl w W' → _) := fun W' hW' => cl_number (h.bl (tag' := tagTo tag w.heap.size (tc + 1)) hW' (fun b hb e => by rw [tagTo_old _ _ _ _ hb]; exact e)) ha hb
  have H := hid h
  have d5 := h.cellAt 5 rfl
  have lp := h.lp
  clear h
  go_enter Tryz.func156, Tryz.ntmps156
  go_upto_region 0 with fail
  go_cut [2] (fun y wx => ∃ gb, y = .pointer (some ⟨gb, 0, none⟩) ∧ Hid (ClK wx (tagTo tag w.heap.size (tc + 1)) tc p q n m vo ce id { X with asked := X.asked + 1 } lv rv vv nv av bm born clk) ∧ Hid (wx.heap[gb]? = some (.cells #[.int .i64 1, .int .i64 (X.asked + 1), .int .i64 0, .int .i64 0, .int .i64 0, .int .i64 0, .int .i64 0, .slice none 0 0] 100 (0, 0))) ∧ w.heap.size ≤ gb ∧ Hid (Only (fun b => b = p) w wx))
  case first =>
    go_region_with (go_at_call 191; refine (HN.out _ ?hb).mono ?_; (case hb => repeat (first | exact Bl.refl _ | refine Bl.drew ?_ | refine Bl.drewN ?_ _ | refine Bl.alloc ?_ _)); rintro en w2 ⟨rfl, hk2, ho2⟩; have z5 := hk2.cellAt 5 rfl; have lp2 := hk2.lp; have HK2 := hid hk2; have HO2 := hid ho2; have ls2 := ho2.size; (first | (have e1 : w2.heap[w.heap.size]? = some (.cells #[.int .i64 0, .int .i64 0, .int .i64 0, .int .i64 0, .int .i64 0, .int .i64 0, .int .i64 0, .slice none 0 0] 100 (0, 0)) := (ho2.block w.heap.size (by simp) (by omega)).trans (heap_alloc_new w.drew _); obtain ⟨⟨y0, y1, y2, y3, y4, y5, y6, y7⟩, ⟨g0, g1, g2, g3, g4, g5, g6, g7⟩, lz⟩ := row8 e1; have HE1 := hid e1; clear e1) | skip); clear hk2 ho2)
    all_goals (go_wp2_with fail; go_meet)
    all_goals first
      | (have hE := HE1.out; exact ⟨_, rfl, probe_mid1 HK2.out (by rw [tagTo_new _ _ _ _ (Nat.le_refl _)]; omega), puts_heap [.int .i64 1, .int .i64 (X.asked + 1), .int .i64 0, .int .i64 0, .int .i64 0, .int .i64 0, .int .i64 0, .slice none 0 0] 0 w2 [.int .i64 0, .int .i64 0, .int .i64 0, .int .i64 0, .int .i64 0, .int .i64 0, .int .i64 0, .slice none 0 0] hE, Nat.le_refl _, puts_only (S := fun b => b = p) (.inr (Nat.le_refl _)) [.int .i64 1, .int .i64 (X.asked + 1), .int .i64 0, .int .i64 0, .int .i64 0, .int .i64 0, .int .i64 0, .slice none 0 0] 0 w2 (Only.trans (Only.of_bl (by repeat (first | exact Bl.refl _ | refine Bl.drew ?_ | refine Bl.drewN ?_ _ | refine Bl.alloc ?_ _))) HO2.out)⟩)
      | exact ⟨_, rfl, HK2.out.bl ((Bl.refl _).alloc _) (fun _ _ e => e), heap_alloc_new w2 _, by simpa using ls2, (Only.trans (Only.of_bl (by repeat (first | exact Bl.refl _ | refine Bl.drew ?_ | refine Bl.drewN ?_ _ | refine Bl.alloc ?_ _))) HO2.out).alloc _⟩
  case rest =>
    obtain ⟨gb, rfl, HC, HX, lgb, HO⟩ := hcut
    obtain ⟨⟨z0, z1, z2, z3, z4, z5, z6, z7⟩, _, lz⟩ := row8 HX.out
    have d6 := HC.out.cellAt 6 rfl
    have lpc := HC.out.lp
    have HL : Hid (∀ W, Bl wc W → _) := fun W hW => all_any (HC.out.bl hW (tag' := tagTo tag w.heap.size (tc + 1)) (fun _ _ e => e)).lay (by omega) (by omega) (by omega) (by omega)
    have HQ := hid (fun na nc W => newQuestion_any W na (n * m) nc 1 (X.asked + 1) 0 0 0 0 0 none 0 0)
    obtain ⟨gl, hlv⟩ : ∃ gl, lv = .slice (some ⟨gl, 0, none⟩) n n := by
      obtain ⟨g, arr, e, _⟩ := HC.out.lay
      exact ⟨g, e⟩
    subst hlv
    have lwc := HO.out.size
    clear d5 HN
    go_upto_region 1 with fail
    go_region_with (first | (go_at_call 188; refine (HL.out _ ?hb).mono ?_; (case hb => first | exact Bl.refl _ | exact (Bl.refl _).drew | exact (Bl.refl _).drewN _); rintro en w3 ⟨g3, cap3, rfl, ho3, hb3⟩; have hB3 : Bl wc w3 := Bl.trans (by first | exact Bl.refl _ | exact (Bl.refl _).drew | exact (Bl.refl _).drewN _) hb3; have s6p := (hB3.cell lpc).trans d6; have s0 := (hB3.cell lz).trans z0; have s1 := (hB3.cell lz).trans z1; have s2 := (hB3.cell lz).trans z2; have s3 := (hB3.cell lz).trans z3; have s4 := (hB3.cell lz).trans z4; have s5 := (hB3.cell lz).trans z5; have s6 := (hB3.cell lz).trans z6; have s7 := (hB3.cell lz).trans z7; have lz3 := Nat.lt_of_lt_of_le lz hB3.lt; have HO3 := hid (ownsRow_base (base' := wc.heap.size) ho3 (fun b hb => (ho3.lt b hb).1)); have HB3 := hid hB3; clear ho3 hb3 hB3) | (go_at_call 204; refine (HQ.out _ _ _).mono ?_; rintro en w4 ⟨gm, rfl, hgm, hm4, hb4⟩; have hB4 : Bl w3 w4 := Bl.trans (by first | exact Bl.refl _ | exact (Bl.refl _).drew | exact (Bl.refl _).drewN _) hb4; have hK4 := HC.out.bl (HB3.out.trans hB4) (tag' := tagTo tag w.heap.size tc) (fun b hb e => by by_cases hlt : b < w.heap.size; (rw [tagTo_old _ _ _ _ hlt] at e ⊢; exact e); rw [tagTo_new _ _ _ _ (by omega)]); have y6 := hK4.cellAt 6 rfl; have y0 := (hB4.cell lz3).trans s0; have y1 := (hB4.cell lz3).trans s1; have y2 := (hB4.cell lz3).trans s2; have y3 := (hB4.cell lz3).trans s3; have y4 := (hB4.cell lz3).trans s4; have y5 := (hB4.cell lz3).trans s5; have y61 := (hB4.cell lz3).trans s6; have y7 := (hB4.cell lz3).trans s7; have q10 := hK4.cellAt 10 rfl; have q11 := hK4.cellAt 11 rfl; have q12 := hK4.cellAt 12 rfl; have q13 := hK4.cellAt 13 rfl; have q14 := hK4.cellAt 14 rfl; have q15 := hK4.cellAt 15 rfl; have q16 := hK4.cellAt 16 rfl; have q17 := hK4.cellAt 17 rfl; have q18 := hK4.cellAt 18 rfl; have q19 := hK4.cellAt 19 rfl; have q20 := hK4.cellAt 20 rfl; have p10 := hK4.frz 10; have p11 := hK4.frz 11; have p12 := hK4.frz 12; have p13 := hK4.frz 13; have p14 := hK4.frz 14; have p15 := hK4.frz 15; have p16 := hK4.frz 16; have p17 := hK4.frz 17; have p18 := hK4.frz 18; have p19 := hK4.frz 19; have p20 := hK4.frz 20; have lp4 := hK4.lp; have lg4 : w3.heap.size ≤ gm := Nat.le_trans (by first | exact Nat.le_refl _) hgm; have HK4 := hid hK4; have HB4 := hid hB4; have Hm4 := hid hm4; clear hK4 hb4 hB4 hm4))
    all_goals
      go_wp2
      go_end0
      have l3 := HB3.out.lt
      have lbc := HC.out.lb
      have hRd := (Rd.of_own (tag := tagTo tag w.heap.size tc) (tc := tc) HO3.out (fun b hb => tagTo_new _ _ _ _ (by have := (HO3.out.lt b hb).1; omega))).bl HB4.out (tag' := tagTo tag w.heap.size tc) (fun _ _ e => e)
      have hfin := HK4.out.setPr (X.asked + 1) (allOf n m) _ gm hRd Hm4.out (tagTo_new _ _ _ _ (by omega)) (by omega) (fun c hc => (HC.out.call c hc).fresh (HB3.out.trans HB4.out) (fun b hb e => by
        by_cases hlt : b < w.heap.size
        · rw [tagTo_old _ _ _ _ hlt] at e ⊢; exact e
        · rw [tagTo_new _ _ _ _ (by omega)]) (by omega))
      refine ⟨rfl, Cl.of hfin, ?_⟩
      have O1 : Only (fun b => b = p) w (puts w4 p 10 [.int .i64 1, .int .i64 (X.asked + 1), .int .i64 0, .int .i64 0, .int .i64 0, .int .i64 0, .int .i64 0, .slice none 0 0, .slice (some ⟨g3, 0, none⟩) (n * m) cap3, .bool true, .map (some gm)]) := puts_only (S := fun b => b = p) (.inl rfl) _ 10 w4 (HO.out.trans (Only.of_bl (HB3.out.trans HB4.out)))
      exact O1.mono fun b lb e => ⟨by rw [e]; exact H.out.tp, H.out.mu b lb (by rw [e]; exact H.out.tp) e⟩
end
end Go.Proofs.YtnhjmiglegdamaaGreat

namespace Go.Proofs.YtnhjmiglegdamaaGreat
open Go.Shelf
def Tryz.lays189_ren : Go.Shelf.Ren := ⟨fun | 189 => 94 | 125 => 155 | 257 => 154 | 128 => 202 | 129 => 203 | 294 => 193 | 295 => 194 | 296 => 195 | 297 => 196 | 298 => 197 | 299 => 198 | 216 => 199 | 300 => 200 | 301 => 201 | 328 => 235 | 329 => 236 | 330 => 237 | 331 => 238 | 332 => 239 | 215 => 240 | 343 => 263 | n => n, fun | 28 => 24 | 3 => 3 | 46 => 141 | 0 => 0 | 51 => 276 | 53 => 278 | 4 => 4 | 183 => 270 | 182 => 269 | 131 => 137 | 5 => 5 | 9 => 9 | 218 => 317 | 222 => 321 | 228 => 342 | 229 => 343 | n => n, fun | n => n⟩
theorem Tryz.lays189 : Go.Proofs.Lays.n189 Tryz.prog Tryz.lays189_ren := {
  mixed := by kernel_rfl
  f125 := Tryz.func155.trans (congrArg some (by kernel_rfl))
  f128 := Tryz.func202.trans (congrArg some (by kernel_rfl))
  f129 := Tryz.func203.trans (congrArg some (by kernel_rfl))
  f189 := Tryz.func94.trans (congrArg some (by kernel_rfl))
  f215 := Tryz.func240.trans (congrArg some (by kernel_rfl))
  f216 := Tryz.func199.trans (congrArg some (by kernel_rfl))
  f257 := Tryz.func154.trans (congrArg some (by kernel_rfl))
  f294 := Tryz.func193.trans (congrArg some (by kernel_rfl))
  f295 := Tryz.func194.trans (congrArg some (by kernel_rfl))
  f296 := Tryz.func195.trans (congrArg some (by kernel_rfl))
  f297 := Tryz.func196.trans (congrArg some (by kernel_rfl))
  f298 := Tryz.func197.trans (congrArg some (by kernel_rfl))
  f299 := Tryz.func198.trans (congrArg some (by kernel_rfl))
  f300 := Tryz.func200.trans (congrArg some (by kernel_rfl))
  f301 := Tryz.func201.trans (congrArg some (by kernel_rfl))
  f328 := Tryz.func235.trans (congrArg some (by kernel_rfl))
  f329 := Tryz.func236.trans (congrArg some (by kernel_rfl))
  f330 := Tryz.func237.trans (congrArg some (by kernel_rfl))
  f331 := Tryz.func238.trans (congrArg some (by kernel_rfl))
  f332 := Tryz.func239.trans (congrArg some (by kernel_rfl))
  f343 := Tryz.func263.trans (congrArg some (by kernel_rfl))
  t0 := Tryz.underlying0
  a0 := Tryz.isAgg0
  z0 := Tryz.sizeOf0
  v0 := Tryz.zeroValue0
  t3 := Tryz.underlying3
  a3 := Tryz.isAgg3
  z3 := Tryz.sizeOf3
  v3 := Tryz.zeroValue3
  t4 := Tryz.underlying4
  a4 := Tryz.isAgg4
  z4 := Tryz.sizeOf4
  v4 := Tryz.zeroValue4
  t5 := Tryz.underlying5
  a5 := Tryz.isAgg5
  z5 := Tryz.sizeOf5
  v5 := Tryz.zeroValue5
  t9 := Tryz.underlying9
  a9 := Tryz.isAgg9
  z9 := Tryz.sizeOf9
  v9 := Tryz.zeroValue9
  t28 := Tryz.underlying24
  a28 := Tryz.isAgg24
  z28 := Tryz.sizeOf24
  v28 := Tryz.zeroValue24
  t46 := Tryz.underlying141
  a46 := Tryz.isAgg141
  z46 := Tryz.sizeOf141
  v46 := Tryz.zeroValue141
  t51 := Tryz.underlying276
  a51 := Tryz.isAgg276
  z51 := Tryz.sizeOf276
  v51 := Tryz.zeroValue276
  t53 := Tryz.underlying278
  a53 := Tryz.isAgg278
  z53 := Tryz.sizeOf278
  v53 := Tryz.zeroValue278
  t131 := Tryz.underlying137
  a131 := Tryz.isAgg137
  z131 := Tryz.sizeOf137
  v131 := Tryz.zeroValue137
  t182 := Tryz.underlying269
  a182 := Tryz.isAgg269
  z182 := Tryz.sizeOf269
  v182 := Tryz.zeroValue269
  t183 := Tryz.underlying270
  a183 := Tryz.isAgg270
  z183 := Tryz.sizeOf270
  v183 := Tryz.zeroValue270
  t218 := Tryz.underlying317
  a218 := Tryz.isAgg317
  z218 := Tryz.sizeOf317
  v218 := Tryz.zeroValue317
  t222 := Tryz.underlying321
  a222 := Tryz.isAgg321
  z222 := Tryz.sizeOf321
  v222 := Tryz.zeroValue321
  t228 := Tryz.underlying342
  a228 := Tryz.isAgg342
  z228 := Tryz.sizeOf342
  v228 := Tryz.zeroValue342
  t229 := Tryz.underlying343
  a229 := Tryz.isAgg343
  z229 := Tryz.sizeOf343
  v229 := Tryz.zeroValue343 }
end Go.Proofs.YtnhjmiglegdamaaGreat

namespace Go.Proofs.YtnhjmiglegdamaaGreat
open Go.RowKit Go.Maps Go.Sort Go.Shelf
attribute [local go_sem ↓] Go.wp_at_zero Go.wp_at_succ
set_option maxRecDepth 100000 in
set_option maxHeartbeats 2000000 in
theorem ins_none (a : Option Addr) (cap : Nat) (w : World) : Calls Tryz.prog 193 #[.slice a 0 cap, .int .i64 0, .int .i64 0] w fun e w' => e = .returned (.tuple #[]) ∧ w' = w := by
  go_enter Tryz.func193, Tryz.ntmps193
  go_wp2
  refine wp_loop_rounds 1 ?_; rw [rounds_succ]
  go_wp2
  go_end0
  exact ⟨rfl, rfl⟩
set_option maxRecDepth 100000 in
set_option maxHeartbeats 2000000 in
theorem pdq_none (a : Option Addr) (cap : Nat) (l : Int) (w : World) : Calls Tryz.prog 154 #[.slice a 0 cap, .int .i64 0, .int .i64 0, .int .i64 l] w fun e w' => e = .returned (.tuple #[]) ∧ w' = w := by
  have HI := hid (ins_none a cap)
  go_enter Tryz.func154, Tryz.ntmps154
  go_wp2
  refine wp_loop_rounds 1 ?_; rw [rounds_succ]
  go_wp2_with (go_at_call 193; refine (HI.out _).mono ?_; rintro e w' ⟨rfl, rfl⟩)
  (try simp only [Exit.inBlock, Exit.then])
  refine bodyPost_ret (v := .tuple #[]) (by simp [results, Tryz.results154, go_sem]) rfl ?_
  exact ⟨rfl, rfl⟩
set_option maxRecDepth 100000 in
set_option maxHeartbeats 2000000 in
theorem sort_none (a : Option Addr) (cap : Nat) (w : World) : Calls Tryz.prog 94 #[.slice a 0 cap] w fun e w' => e = .returned (.tuple #[]) ∧ w' = w := by
  have HI := hid (pdq_none a cap)
  go_enter Tryz.func94, Tryz.ntmps94
  go_wp2_with (first | (go_at_call 154; refine (HI.out _ _).mono ?_; rintro e w' ⟨rfl, rfl⟩) | go_in)
  go_end0
  exact ⟨rfl, rfl⟩
theorem Tryz.sortsA (m : Nat) : AnyZI.SortsIn Tryz.prog Tryz.sortedA_ren Fence.wide m :=
  ⟨fun blk off cap ss W hH hblk hsz => callsIn_wide.2 (Any.slices_Sort_int Tryz.lays189 blk off cap ss W hH hblk hsz),
   fun p cap W => callsIn_wide.2 (sort_none p cap W)⟩
def Rv : Value → Option (DataW Value × List MemPlace) := fun v => some (.held v, [])
theorem own_pend {w : World} {bm clk born q : Nat} {o : Option PC} (hb : w.heap[bm]? = some (.map (pendE q born o) clk)) (hbc : born < clk ∨ o = none) (hn : ∀ c, o = some c → c.num ≤ 1000) : ∃ D : DataW Value, w.ownsMap Tryz.prog 3 Rv bm 1 D ∧ intKeys D = (match o with | none => [] | some c => [(c.num : Int)]) ∧ Maps.size D ≤ 1 := by
  cases o with
  | none => exact ⟨.map [], ⟨_, _, hb, ⟨by simp [pendE], ⟨by simp [pendE], by simp [pendE], by simp [pendE]⟩, by simp [pendE]⟩, by simp [pendE], rfl⟩, rfl, by simp [Maps.size]⟩
  | some c =>
    have hc := hn c rfl
    have hk : keyOf Tryz.prog 3 (.int .i64 c.num) = some (.int .i64 c.num) := keyOf_int_mk Tryz.underlying3 (by simp [Lit.wf, IntKind.min, IntKind.max, IntKind.bits, IntKind.signed]; omega)
    have hrd : WideElems.rd Tryz.prog 3 Rv ⟨.int .i64 c.num, .pointer (some ⟨q, 0, none⟩), born⟩ = some (.int .i64 c.num, .held (.pointer (some ⟨q, 0, none⟩))) := WideElems.rd_mk (yv := (DataW.held (Value.pointer (some ⟨q, 0, none⟩)), [])) hk rfl
    have hbc' : born < clk := hbc.resolve_right (by simp)
    refine ⟨.map [(.int .i64 c.num, .held (.pointer (some ⟨q, 0, none⟩)))], ⟨_, _, hb, ⟨by simp [pendE, maxLen], ⟨by simp [pendE]; exact hbc', by simp [pendE], by simp [pendE]⟩, fun x hx => ?_⟩, by simp [pendE], ?_⟩, rfl, by simp [Maps.size]⟩
    · simp [pendE] at hx
      subst hx
      exact ⟨_, hrd⟩
    · simp [pendE, WideElems.rg_of hrd, DataW.insert]
theorem keys_any (mb : Option Nat) (W : World) : Calls Tryz.prog 234 #[.map mb] W fun e w' => e = .returned (.func (.func 262) #[] #[.pointer (some ⟨W.heap.size, 0, none⟩)]) ∧ w' = W.alloc (.cells #[.map mb] 98) :=
  callsIn_wide.1 (AnyZI.keys_in Tryz.keysA Fence.wide 5 trivial rfl mb W)
theorem sorted_any {w : World} {bm clk born q : Nat} {o : Option PC} (hb : w.heap[bm]? = some (.map (pendE q born o) clk)) (hbc : born < clk ∨ o = none) (hn : ∀ c, o = some c → c.num ≤ 1000) (g : Nat) (hg : g < w.heap.size) (hc : w.cell? ⟨g, 0, none⟩ = some (.map (some bm))) :
    Calls Tryz.prog 233 #[.func (.func 262) #[] #[.pointer (some ⟨g, 0, none⟩)]] w fun e w' => Bl w w' ∧ (match (generalizing := false) o with | none => e = .returned (.slice none 0 0) | some c => ∃ gs cap, e = .returned (.slice (some ⟨gs, 0, none⟩) 1 cap) ∧ gs < w'.heap.size ∧ w'.cell? ⟨gs, 0, none⟩ = some (.int .i64 c.num)) := by
  obtain ⟨D, h1, h2, h3⟩ := own_pend hb hbc hn
  have hseq : SeqGives Fence.wide 2 Tryz.prog 262 #[.pointer (some ⟨g, 0, none⟩)] encZ (fun ss => ss.Perm (intKeys D)) (Maps.size D) w :=
    AnyZI.keys_gives (ρ := Tryz.keysA_ren) { Tryz.keysA with } Fence.wide _ trivial rfl (by omega) g bm 1 D _ hg hc h1
  have cS := AnyZI.sorted_in Tryz.sortedA Fence.wide 5 trivial trivial trivial trivial rfl (by omega) (Tryz.sortsA _) (enters_of Tryz.func94 (by kernel_rfl) rfl) 262 #[.pointer (some ⟨g, 0, none⟩)] trivial (enters_of Tryz.func262 (by kernel_rfl) rfl) _ _ (Nat.le_trans h3 (by decide)) (by omega) _ hseq
  change CallsIn _ _ Tryz.prog 233 _ _ _ at cS
  refine (callsIn_wide.1 cS).mono ?_
  rintro e w' ⟨v, ss, rfl, hS, hrow, hnil, hbl⟩
  refine ⟨hbl, ?_⟩
  rw [h2] at hS
  cases o with
  | none =>
    have : ss = [] := List.Perm.eq_nil hS
    exact congrArg _ (hnil.2 this)
  | some c =>
    have hss : ss = [(c.num : Int)] := List.Perm.eq_singleton hS
    subst hss
    rw [List.mergeSort_singleton] at hrow
    change w'.ownsRow w.heap.size 3 1 v 1 [encZ c.num] at hrow
    obtain ⟨gs, cap, rfl⟩ := own_shape hrow (by decide)
    exact ⟨gs, cap, rfl, (hrow.lt gs rfl).2, hrow.cellAt 0 (by decide)⟩
end Go.Proofs.YtnhjmiglegdamaaGreat

namespace Go.Proofs.YtnhjmiglegdamaaGreat
open Go.RowKit Go.Maps
attribute [local go_sem ↓] Go.wp_at_zero Go.wp_at_succ
theorem Tryz.info159 : (Tryz.prog.info? 159).map (fun i => (i.zero, i.size, i.bytes)) = some (some (.pointer none), 1, 8) := by kernel_rfl
theorem look98 (w : World) (bm clk born : Nat) (k : Int) (v : Value) (hb : w.heap[bm]? = some (.map #[⟨.int .i64 k, v, born⟩] clk)) :
    (Instr.lookup 98 (.map (some bm)) (.int .i64 k) false).run Tryz.prog w = .ok v w := by
  have h0 : Instr.findNow (.int .i64) (.int .i64 k) (#[⟨.int .i64 k, v, born⟩] : Array MapEntry).toList 0 = some (some (0, v)) := by
    simp [Instr.findNow, Instr.sameNow]
  have h1 := MapKept.run_findKey (P := Tryz.prog) (w := w) Tryz.underlying3 h0
  have h2 := MapKept.run_checkKey (P := Tryz.prog) (w := w) (k := .int .i64 k) Tryz.underlying3 (by simp [MapKept.IsKey]) false 9999
  simp [Instr.lookup, Sem.run_bind, run_underlying Tryz.underlying98, Result.andThen, MapKept.run_getObj_map hb, h2, h1]
theorem look98t (w : World) (bm clk born : Nat) (k : Int) (v : Value) (hb : w.heap[bm]? = some (.map #[⟨.int .i64 k, v, born⟩] clk)) :
    (Instr.lookup 98 (.map (some bm)) (.int .i64 k) true).run Tryz.prog w = .ok (.tuple #[v, .bool true]) w := by
  have h0 : Instr.findNow (.int .i64) (.int .i64 k) (#[⟨.int .i64 k, v, born⟩] : Array MapEntry).toList 0 = some (some (0, v)) := by
    simp [Instr.findNow, Instr.sameNow]
  have h1 := MapKept.run_findKey (P := Tryz.prog) (w := w) Tryz.underlying3 h0
  have h2 := MapKept.run_checkKey (P := Tryz.prog) (w := w) (k := .int .i64 k) Tryz.underlying3 (by simp [MapKept.IsKey]) false 9999
  simp [Instr.lookup, Sem.run_bind, run_underlying Tryz.underlying98, Result.andThen, MapKept.run_getObj_map hb, h2, h1]
section
variable {w w0 w' : World} {tag tag' : Nat → Nat} {tc p q n m : Nat} {vo ce id : Int} {X X' : CX} {lv rv vv nv av : Value} {bm born clk k gm : Nat} {c c' : PC}
set_option maxRecDepth 100000 in
set_option maxHeartbeats 4000000 in
theorem cl_calls0 (h : ClK w tag tc p q n m vo ce id X lv rv vv nv av bm born clk) (hc : X.pend = none) :
    Calls Tryz.prog 189 #[.pointer (some ⟨p, 0, none⟩)] w fun en w' => en = .returned (.slice none 0 0) ∧ Bl w w' := by
  have hm := h.mp
  have hbc := h.bc
  rw [hc] at hm hbc
  have c8 := h.cellAt 8 rfl
  have lp := h.lp
  have HK := hid keys_any
  have bA := (Bl.refl w).alloc (.cells #[.map (some bm)] 98)
  have HS := hid (sorted_any (w := w.alloc (.cells #[.map (some bm)] 98)) ((bA.heap h.lb).trans hm) hbc (fun c e => by simp at e) w.heap.size (by simp) (cell_of_row _ w.heap.size 0 _ 98 (0, 0) (heap_alloc_new w _)))
  clear h hm hbc
  go_enter Tryz.func189, Tryz.ntmps189
  go_wp2_with (first | (go_at_call 234; refine (HK.out _ _).mono ?_; rintro e w' ⟨rfl, rfl⟩) | (go_at_call 233; refine HS.out.mono ?_; rintro e w2 ⟨hb2, rfl⟩; have HB := hid (bA.trans hb2); clear HS hb2))
  refine wp_loop_rounds 1 ?_; rw [rounds_succ]
  go_wp2
  go_ret
  exact ⟨rfl, HB.out⟩
set_option maxRecDepth 100000 in
set_option maxHeartbeats 4000000 in
theorem cl_calls1 (h : ClK w tag tc p q n m vo ce id X lv rv vv nv av bm born clk) (hc : X.pend = some c) (hn : c.num ≤ 1000) :
    Calls Tryz.prog 189 #[.pointer (some ⟨p, 0, none⟩)] w fun en w' => ∃ g cap, en = .returned (.slice (some ⟨g, 0, none⟩) 1 cap) ∧ g < w'.heap.size ∧ w'.cell? ⟨g, 0, none⟩ = some (.pointer (some ⟨q, 0, none⟩)) ∧ Bl w w' := by
  obtain ⟨i159, ji, jz0, jz1, jz2⟩ := info_parts Tryz.info159
  have hm := h.mp
  have hbc := h.bc
  rw [hc] at hm hbc
  have c8 := h.cellAt 8 rfl
  have lp := h.lp
  have lb := h.lb
  have HK := hid keys_any
  have bA := (Bl.refl w).alloc (.cells #[.map (some bm)] 98)
  have HS := hid (sorted_any (w := w.alloc (.cells #[.map (some bm)] 98)) ((bA.heap h.lb).trans hm) hbc (fun c' e => by simp at e; rw [← e]; exact hn) w.heap.size (by simp) (cell_of_row _ w.heap.size 0 _ 98 (0, 0) (heap_alloc_new w _)))
  have HM := hid hm
  clear h hm hbc
  go_enter Tryz.func189, Tryz.ntmps189
  go_wp2_with (first | (go_at_call 234; refine (HK.out _ _).mono ?_; rintro e w' ⟨rfl, rfl⟩) | (go_at_call 233; refine HS.out.mono ?_; rintro e w2 ⟨hb2, gs, cap, rfl, lgs, hgs⟩; have hB := bA.trans hb2; have d8 := (hB.cell lp).trans c8; have hlk := look98 w2 bm clk born c.num _ ((hB.heap lb).trans HM.out); have lp2 := Nat.lt_of_lt_of_le lp hB.lt; have HB := hid hB; clear HS hb2 hB))
  refine wp_loop_rounds 2 ?_; rw [rounds_succ]
  go_wp2_with (at_builtin; refine wpList_append_lies _ rfl _ _ 264 rfl w2.heap.size 159 i159 _ 1 8 Tryz.underlying264 ji jz0 jz1 jz2 rfl (by decide) (.slice none 0 0) 0 [] rfl (World.ownsRow_nil _ _ _ _) ⟨w2.heap.size, 0, none⟩ 1 1 [.pointer (some ⟨q, 0, none⟩)] rfl rfl (cell_one_new _ _ _) (by simp [Value.oneCell']) (by decide) (by decide) (by decide) (by simp) (w2.heap.size + 1) (by simp) ?_)
  intro g cap3 w3 hown hgrow hat hlt
  have hB3 : Hid (Bl w w3) := (HB.out.alloc _).trans_only (Only.of_grown hgrow) fun k e => by simp [Value.ownBlock] at e
  have hc3 : w3.cell? ⟨g, 0, none⟩ = some (.pointer (some ⟨q, 0, none⟩)) := hown.cellAt 0 (by decide)
  clear hown hgrow hat
  go_wp2
  rw [rounds_succ]
  go_wp2
  go_ret
  exact ⟨g, cap3, rfl, hlt, hc3, hB3.out⟩
set_option maxRecDepth 100000 in
set_option maxHeartbeats 4000000 in
theorem cl_changes (h : ClK w tag tc p q n m vo ce id X lv rv vv nv av bm born clk) (hn : ∀ c, X.pend = some c → c.num ≤ 1000 ∧ c.kind ≠ 5) :
    Calls Tryz.prog 150 #[.pointer (some ⟨p, 0, none⟩)] w fun en w' => en = .returned (.slice none 0 0) ∧ Bl w w' := by
  cases hc : X.pend with
  | none =>
    have HK := hid (cl_calls0 h hc)
    clear h
    go_enter Tryz.func150, Tryz.ntmps150
    go_wp2_with (go_at_call 189; refine HK.out.mono ?_; rintro e w2 ⟨rfl, hb2⟩; have HB := hid hb2; clear HK hb2)
    refine wp_loop_rounds 1 ?_; rw [rounds_succ]
    go_wp2
    go_ret
    exact ⟨rfl, HB.out⟩
  | some c =>
    obtain ⟨h1, h2⟩ := hn c hc
    have HK := hid (cl_calls1 h hc h1)
    obtain ⟨ov, cv, ev, v3, n3, a3, hk, _⟩ := h.call c hc
    have e0 := hk.cellAt 0 rfl
    have lq := hk.lt
    have hne : (c.kind == 5) = false := by simpa using h2
    clear h hk
    go_enter Tryz.func150, Tryz.ntmps150
    go_wp2_with (go_at_call 189; refine HK.out.mono ?_; rintro e w2 ⟨g, cap, rfl, lg, hg, hb2⟩; have d0 := (hb2.cell lq).trans e0; have lq2 := Nat.lt_of_lt_of_le lq hb2.lt; have HB := hid hb2; clear HK hb2)
    refine wp_loop_rounds 2 ?_; rw [rounds_succ]
    go_wp2
    rw [rounds_succ]
    go_wp2
    go_ret
    exact ⟨rfl, HB.out⟩
set_option maxRecDepth 100000 in
theorem cl_hasChanges (h : ClK w tag tc p q n m vo ce id X lv rv vv nv av bm born clk) (hn : ∀ c, X.pend = some c → c.num ≤ 1000 ∧ c.kind ≠ 5) :
    Calls Tryz.prog 90 #[.pointer (some ⟨p, 0, none⟩)] w fun en w' => en = .returned (.bool false) ∧ Bl w w' := by
  have HK := hid (cl_changes h hn)
  clear h
  go_enter Tryz.func90, Tryz.ntmps90
  go_wp2_with (go_at_call 150; refine HK.out.mono ?_; rintro e w2 ⟨rfl, hb2⟩; have HB := hid hb2; clear HK hb2)
  go_ret
  exact ⟨rfl, HB.out⟩
end
end Go.Proofs.YtnhjmiglegdamaaGreat
