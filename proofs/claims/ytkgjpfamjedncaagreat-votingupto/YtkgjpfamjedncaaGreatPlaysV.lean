-- The script of voters is played.
import Derived.Test.YtkgjpfamjedncaaGreatStepV
namespace Go.Proofs.YtkgjpfamjedncaaGreat
open Go.RowKit Go.Maps
attribute [local go_sem ↓] Go.wp_at_zero Go.wp_at_succ

def R64 (a : Int) : Prop := -9223372036854775808 ≤ a ∧ a ≤ 9223372036854775807
/-- A step of the script, as it lies in memory. -/
def OpAt (w : World) (b off : Nat) (kd : Int) (ss : List Int) : Prop :=
  ∃ (a bb c q1 q2 q3 q4 : Int) (la : Option Addr) (ln lc : Nat) (ua : Option Addr) (un uc : Nat) (t1 t2 t3 : Int) (va : Option Addr) (vn vc : Nat),
    (w.cell? ⟨b, off, none⟩ = some (.int .i64 kd) ∧ w.cell? ⟨b, off + 1, none⟩ = some (.int .i64 a) ∧ w.cell? ⟨b, off + 2, none⟩ = some (.int .i64 bb) ∧ w.cell? ⟨b, off + 3, none⟩ = some (.int .i64 c) ∧
     w.cell? ⟨b, off + 4, none⟩ = some (.int .i64 q1) ∧ w.cell? ⟨b, off + 5, none⟩ = some (.int .i64 q2) ∧ w.cell? ⟨b, off + 6, none⟩ = some (.int .i64 q3) ∧ w.cell? ⟨b, off + 7, none⟩ = some (.int .i64 q4) ∧
     w.cell? ⟨b, off + 8, none⟩ = some (.slice la ln lc) ∧ w.cell? ⟨b, off + 9, none⟩ = some (.slice ua un uc) ∧ w.cell? ⟨b, off + 10, none⟩ = some (.string (strOf ss)) ∧
     w.cell? ⟨b, off + 11, none⟩ = some (.int .i64 t1) ∧ w.cell? ⟨b, off + 12, none⟩ = some (.int .i64 t2) ∧ w.cell? ⟨b, off + 13, none⟩ = some (.int .i64 t3) ∧ w.cell? ⟨b, off + 14, none⟩ = some (.slice va vn vc)) ∧
    R64 a ∧ R64 bb ∧ R64 c ∧ Byt ss
theorem OpAt.bl {w w' : World} {b off : Nat} {kd : Int} {ss : List Int} (h : OpAt w b off kd ss) (hb : b < w.heap.size) (hbl : Bl w w') : OpAt w' b off kd ss := by
  obtain ⟨a, bb, c, q1, q2, q3, q4, la, ln, lc, ua, un, uc, t1, t2, t3, va, vn, vcc, ⟨d0, d1, d2, d3, d4, d5, d6, d7, d8, d9, d10, d11, d12, d13, d14⟩, hS⟩ := h
  exact ⟨a, bb, c, q1, q2, q3, q4, la, ln, lc, ua, un, uc, t1, t2, t3, va, vn, vcc, ⟨(hbl.cell hb).trans d0, (hbl.cell hb).trans d1, (hbl.cell hb).trans d2, (hbl.cell hb).trans d3, (hbl.cell hb).trans d4, (hbl.cell hb).trans d5, (hbl.cell hb).trans d6, (hbl.cell hb).trans d7, (hbl.cell hb).trans d8, (hbl.cell hb).trans d9, (hbl.cell hb).trans d10, (hbl.cell hb).trans d11, (hbl.cell hb).trans d12, (hbl.cell hb).trans d13, (hbl.cell hb).trans d14⟩, hS⟩

/-- The kinds. -/
def kk : Nat → Int
  | 0 => 9
  | 1 => 10
  | 2 => 11
  | 3 => 12
  | _ => 14
def inV (kd : Int) : Nat → Bool
  | 0 => false
  | n + 1 => inV kd n || (kd == kk n)
theorem inV_five (kd : Int) (h : inV kd 5 = true) : kd = 9 ∨ kd = 10 ∨ kd = 11 ∨ kd = 12 ∨ kd = 14 := by
  simp [inV, kk] at h
  omega
def tot (Ls : List (List Int)) : Nat := (Ls.map List.length).sum
theorem tot_app (A B : List (List Int)) : tot (A ++ B) = tot A + tot B := by
  unfold tot; rw [List.map_append, List.sum_append]
theorem tot_succ (Ls : List (List Int)) (k : Nat) (h : k < Ls.length) : tot (Ls.take (k + 1)) = tot (Ls.take k) + Ls[k].length := by
  rw [List.take_succ_eq_append_getElem h, tot_app]
  simp only [tot, List.map_cons, List.map_nil, List.sum_cons, List.sum_nil, Nat.add_zero]
theorem tot_le (Ls : List (List Int)) (k : Nat) : tot (Ls.take k) ≤ tot Ls := by
  have := tot_app (Ls.take k) (Ls.drop k)
  rw [List.take_append_drop] at this
  omega

/-- What the play keeps: what was there is as it was. -/
structure Pk (w0 w : World) (nv nb K T : Nat) : Prop where
  ex : ∃ tag, Ps w tag w0.heap.size nv nb K T ∧ ∀ b, b < w0.heap.size → tag b = 0
  bl : Bl w0 w
theorem Pk.mono {w0 w : World} {nv nb K T K' T' : Nat} (h : Pk w0 w nv nb K T) (hK : K ≤ K') (hT : T ≤ T') : Pk w0 w nv nb K' T' := by
  obtain ⟨⟨tag, h1, h2⟩, h3⟩ := h
  exact ⟨⟨tag, h1.mono hK hT, h2⟩, h3⟩
theorem Pk.turn {w0 w w' : World} {nv nb K T : Nat} (h : Pk w0 w nv nb K T) (hb : Bl w w') : Pk w0 w' nv nb K T := by
  obtain ⟨⟨tag, h1, h2⟩, h3⟩ := h
  exact ⟨⟨tag, h1.bl hb, h2⟩, h3.trans hb⟩
theorem Pk.first (w : World) : Pk w (w.alloc (.cells #[.slice none 0 0, .slice none 0 0, .slice none 0 0, .slice none 0 0, .slice none 0 0] 35)) 0 0 0 0 := by
  refine ⟨⟨tagTo (fun _ => 0) w.heap.size 2, ⟨.slice none 0 0, fun _ => 0, ⟨.slice none 0 0, [], ⟨Nat.zero_le _, heap_alloc_new w _, World.ownsRow_nil _ _ _ _, fun k hk => by omega⟩, tagTo_new _ _ _ _ (Nat.le_refl _), fun b hb => by simp [Value.ownBlock] at hb, fun u hu => by simp at hu⟩, World.ownsRow_nil _ _ _ _, fun b hb => by simp [Value.ownBlock] at hb, fun j hj => by omega⟩, fun b hb => tagTo_old _ _ _ _ hb⟩, (Bl.refl w).alloc _⟩
theorem Pk.out {w0 w w' : World} {tag tag' : Nat → Nat} {T : Nat → Prop} (h0 : ∀ b, b < w0.heap.size → tag b = 0) (hb : Bl w0 w) (ho : Only T w w') (hT : ∀ b, T b → tag b ≠ 0) (ht : ∀ b, b < w.heap.size → tag' b = tag b) : Bl w0 w' ∧ ∀ b, b < w0.heap.size → tag' b = 0 := by
  have hl := hb.lt
  exact ⟨⟨ho.os.trans hb.os, ho.tape.trans hb.tape, ho.output.trans hb.output, Nat.le_trans hl ho.size, fun i hi => (ho.block i (by omega) fun e => hT i e (h0 i hi)).trans (hb.heap hi)⟩, fun b hb => by rw [ht b (by omega)]; exact h0 b hb⟩
theorem pk_new {w0 : World} (nv nb K T : Nat) (a b c q1 q2 q3 q4 : Int) (la : Option Addr) (ln lc : Nat) (ua : Option Addr) (un uc : Nat) (s : ByteArray) (t1 t2 t3 : Int) (va : Option Addr) (vn vc : Nat) (w : World) (h : Pk w0 w nv nb K T) (hnv : nv < 4000000) :
    Calls Tryz.prog 8 #[.pointer (some ⟨w0.heap.size, 0, none⟩), .agg (opR 9 a b c q1 q2 q3 q4 la ln lc ua un uc s t1 t2 t3 va vn vc)] w fun en w' => en = .returned (.bool true) ∧ Pk w0 w' (nv + 1) nb K T := by
  obtain ⟨⟨tag, h1, h2⟩, h3⟩ := h
  refine (stepNew_any w0.heap.size nv nb K T tag a b c q1 q2 q3 q4 la ln lc ua un uc s t1 t2 t3 va vn vc w h1 hnv).mono ?_
  rintro en w' ⟨rfl, ⟨tag', o1, k1⟩, O⟩
  obtain ⟨r1, r2⟩ := Pk.out h2 h3 O (fun b e => by rcases e with e | e <;> rw [e] <;> omega) o1
  exact ⟨rfl, ⟨tag', k1, r2⟩, r1⟩
theorem pk_call {w0 : World} (kd : Int) (hkd : kd = 10 ∨ kd = 11 ∨ kd = 12 ∨ kd = 14) (nv nb K T : Nat) (a b c q1 q2 q3 q4 : Int) (la : Option Addr) (ln lc : Nat) (ua : Option Addr) (un uc : Nat) (ss : List Int) (t1 t2 t3 : Int) (va : Option Addr) (vn vc : Nat) (w : World) (h : Pk w0 w nv nb K T) (hnv : nv < 4000000) (hnb : nb + 1 < 4000000) (hK : K ≤ 1100000) (hT : T + ss.length ≤ 1100000) (ha : R64 a) (hb : R64 b) (hc : R64 c) (hss : Byt ss) :
    Calls Tryz.prog 8 #[.pointer (some ⟨w0.heap.size, 0, none⟩), .agg (opR kd a b c q1 q2 q3 q4 la ln lc ua un uc (strOf ss) t1 t2 t3 va vn vc)] w fun en w' => en = .returned (.bool true) ∧ ∃ nb', nb' ≤ nb + 2 ∧ Pk w0 w' nv nb' (K + 1) (T + ss.length) := by
  obtain ⟨⟨tag, h1, h2⟩, h3⟩ := h
  refine (stepCall_any kd hkd w0.heap.size nv nb K T tag a b c q1 q2 q3 q4 la ln lc ua un uc ss t1 t2 t3 va vn vc w h1 hnv hnb hK hT ha hb hc hss).mono ?_
  rintro en w' ⟨rfl, ⟨tag', nb', o1, k1, k2⟩, O⟩
  obtain ⟨r1, r2⟩ := Pk.out h2 h3 O (fun b e => e) o1
  exact ⟨rfl, nb', k2, ⟨tag', k1, r2⟩, r1⟩
theorem pk_looks {w0 w : World} {nv nb K T : Nat} (h : Pk w0 w nv nb K T) (hnb : nb ≤ 4000000) : Calls Tryz.prog 9 #[.pointer (some ⟨w0.heap.size, 2, none⟩)] w fun e w' => e = .returned (.bool true) ∧ Pk w0 w' nv nb K T := by
  obtain ⟨⟨tag, ⟨vl, PV, h1, h4⟩, h2⟩, h3⟩ := h
  refine (bt_looks h1 hnb).mono ?_
  rintro e w' ⟨rfl, hb⟩
  exact ⟨rfl, Pk.turn ⟨⟨tag, ⟨vl, PV, h1, h4⟩, h2⟩, h3⟩ hb⟩

set_option maxRecDepth 100000 in
set_option maxHeartbeats 4000000 in
theorem plays_any (v : Value) (N : Nat) (b o cp kb : Nat) (kds : List Int) (Ls : List (List Int)) (w : World) (hv : v = .slice (some ⟨b, o, none⟩) N cp) (hkl : kds.length = N) (hLl : Ls.length = N) (hbl : b < w.heap.size)
    (hops : ∀ k (h : k < kds.length) (h' : k < Ls.length), OpAt w b (o + k * 15) kds[k] Ls[k]) (hkb : kb < w.heap.size) (hk : ∀ n, n < 5 → w.cell? ⟨kb, n, none⟩ = some (.int .i64 (kk n))) (hN : N ≤ 1048576) (hT : tot Ls ≤ 1048576) :
    Calls Tryz.prog 7 #[v, .slice (some ⟨kb, 0, none⟩) 5 5] w fun e w' => e = .returned (.bool true) ∧ Bl w w' := by
  subst hv
  have Hops := hid hops
  have Hk := hid hk
  have Hkl := hid hkl
  have HLl := hid hLl
  have HT := hid hT
  have k0 : w.cell? ⟨kb, 0, none⟩ = some (.int .i64 9) := hk 0 (by omega)
  have HN := hid (pk_new 0 0 0 0 1 0 0 2 2 3 3 none 0 0 none 0 0 ByteArray.empty 0 0 0 none 0 0 _ (Pk.first w) (by omega))
  clear hops hkl hLl hT hk
  unfold opR at HN
  go_enter Tryz.func7, Tryz.ntmps7
  go_wp2_with fail
  refine HN.out.mono ?_
  rintro e w1 ⟨rfl, hP1⟩
  have HP1 := hid hP1
  clear hP1 HN
  go_wp2
  go_loopw [6, 7] (fun ok i wr => ∃ (k nv nb : Nat), k ≤ N ∧ i = .int .i64 k ∧ ok = .bool true ∧ Hid (Pk w wr nv nb k (tot (Ls.take k))) ∧ nv ≤ k + 1 ∧ nb ≤ 2 * k) (fun _ i _ => N - (intOf i).toNat)
  case atStart => exact ⟨0, 1, 0, Nat.zero_le _, rfl, rfl, hid (by simpa [tot] using HP1.out), by omega, by omega⟩
  case round =>
    clear HP1 k0
    obtain ⟨wo, rfl⟩ : ∃ wo, wo = wr := ⟨_, rfl⟩
    obtain ⟨k, nv, nb, hk, rfl, rfl, HP, hnv, hnb⟩ := hrel
    by_cases hlt : k < N
    · have hk1' : k < kds.length := by rw [Hkl.out]; exact hlt
      have hk2' : k < Ls.length := by rw [HLl.out]; exact hlt
      have hop := hid (Hops.out k hk1' hk2')
      have Htot := hid (tot_succ Ls k hk2')
      have htle := tot_le Ls (k + 1)
      have hT2 := HT.out
      have hb4 : tot (Ls.take k) + Ls[k].length ≤ 1048576 := by rw [← Htot.out]; omega
      have Hb4 := hid hb4
      clear htle hT2 hb4
      generalize kds[k] = kd at *
      generalize Ls[k] = ss at *
      generalize tot (Ls.take k) = tk at *
      generalize htk1 : tot (Ls.take (k + 1)) = tk1 at *
      have Htk1 := hid htk1
      clear htk1
      obtain ⟨a, bb, c, q1, q2, q3, q4, la, ln, lc, ua, un, uc, t1, t2, t3, va, vn, vcc, ⟨d0, d1, d2, d3, d4, d5, d6, d7, d8, d9, d10, d11, d12, d13, d14⟩, hS⟩ := hop.out
      have D0 := hid d0
      have HD := hid (And.intro d1 (And.intro d2 (And.intro d3 (And.intro d4 (And.intro d5 (And.intro d6 (And.intro d7 (And.intro d8 (And.intro d9 (And.intro d10 (And.intro d11 (And.intro d12 (And.intro d13 d14)))))))))))))
      have HS := hid hS
      clear hop d0 d1 d2 d3 d4 d5 d6 d7 d8 d9 d10 d11 d12 d13 d14 hS
      have hkN : (k : Int) < (N : Int) := by omega
      have hk0i : (0 : Int) ≤ (k : Int) := by omega
      go_wp2
      go_loopw [8, 9] (fun q j wr => ∃ n : Nat, n ≤ 5 ∧ j = .int .i64 n ∧ q = .bool (inV kd n) ∧ Hid (Pk w wr nv nb k tk)) (fun _ j _ => 5 - (intOf j).toNat)
      case atStart => exact ⟨0, by omega, rfl, rfl, HP.out⟩
      case round =>
        clear HP
        obtain ⟨n, hn, rfl, rfl, HP⟩ := hrel
        have hbw := HP.out.bl
        by_cases hn5 : n < 5
        · have g0 := (hbw.cell hbl).trans D0.out
          have y0 := (hbw.cell hkb).trans (Hk.out n hn5)
          have hnI : (n : Int) < 5 := by omega
          have hn0 : (0 : Int) ≤ (n : Int) := by omega
          clear hbw
          cases he : inV kd n with
          | true =>
            have Hee := hid he
            clear he
            go_wp2
            go_quiet (fail)
            go_wp2
            go_roundw
            case rel => exact ⟨n + 1, by omega, by go_num, by simp [inV, Hee.out], HP.out.turn ((Bl.refl _).drewN _)⟩
            case measure => simp [intOf]; omega
          | false =>
            have Hee := hid he
            clear he
            go_wp2
            go_quiet (fail)
            go_wp2
            go_roundw
            case rel => exact ⟨n + 1, by omega, by go_num, by simp [inV, Hee.out], HP.out.turn ((Bl.refl _).drewN _)⟩
            case measure => simp [intOf]; omega
        · obtain rfl : n = 5 := by omega
          cases he : inV kd 5 with
          | false =>
            have HPm := hid (HP.out.mono (Nat.le_succ k) (T' := tk1) (by have := Htot.out; omega))
            clear he hbw
            go_wp2
            go_roundw
            case rel => exact ⟨k + 1, nv, nb, by omega, by go_num, rfl, by rw [Htk1.out]; exact HPm.out, by omega, by omega⟩
            case measure => simp [intOf]; omega
          | true =>
            have hkd := inV_five kd he
            have g0 := (hbw.cell hbl).trans D0.out
            obtain ⟨d1, d2, d3, d4, d5, d6, d7, d8, d9, d10, d11, d12, d13, d14⟩ := HD.out
            have g1 := (hbw.cell hbl).trans d1
            have g2 := (hbw.cell hbl).trans d2
            have g3 := (hbw.cell hbl).trans d3
            have g4 := (hbw.cell hbl).trans d4
            have g5 := (hbw.cell hbl).trans d5
            have g6 := (hbw.cell hbl).trans d6
            have g7 := (hbw.cell hbl).trans d7
            have g8 := (hbw.cell hbl).trans d8
            have g9 := (hbw.cell hbl).trans d9
            have g10 := (hbw.cell hbl).trans d10
            have g11 := (hbw.cell hbl).trans d11
            have g12 := (hbw.cell hbl).trans d12
            have g13 := (hbw.cell hbl).trans d13
            have g14 := (hbw.cell hbl).trans d14
            have HStep : Hid (Calls Tryz.prog 8 #[.pointer (some ⟨w.heap.size, 0, none⟩), .agg (opR kd a bb c q1 q2 q3 q4 la ln lc ua un uc (strOf ss) t1 t2 t3 va vn vcc)] wr fun en w' => en = .returned (.bool true) ∧ ∃ nv' nb', nv' ≤ nv + 1 ∧ nb' ≤ nb + 2 ∧ Pk w w' nv' nb' (k + 1) tk1) := by
              have hb4 := Hb4.out
              have htt := Htot.out
              by_cases h9 : kd = 9
              · subst h9
                refine (pk_new nv nb k tk a bb c q1 q2 q3 q4 la ln lc ua un uc (strOf ss) t1 t2 t3 va vn vcc wr HP.out (by omega)).mono ?_
                rintro en w' ⟨rfl, hP⟩
                exact ⟨rfl, _, _, Nat.le_refl _, by omega, hP.mono (by omega) (by omega)⟩
              · refine (pk_call kd (by omega) nv nb k tk a bb c q1 q2 q3 q4 la ln lc ua un uc ss t1 t2 t3 va vn vcc wr HP.out (by omega) (by omega) (by omega) (by omega) HS.out.1 HS.out.2.1 HS.out.2.2.1 HS.out.2.2.2).mono ?_
                rintro en w' ⟨rfl, nb', h1, hP⟩
                exact ⟨rfl, _, nb', by omega, h1, hP.mono (by omega) (by omega)⟩
            unfold opR at HStep
            clear d1 d2 d3 d4 d5 d6 d7 d8 d9 d10 d11 d12 d13 d14 hkd he hbw HP
            go_wp2_with fail
            refine HStep.out.mono ?_
            rintro e w2 ⟨rfl, nv2, nb2, l1, l2, hP2⟩
            have HLk := hid (pk_looks hP2 (by omega))
            clear g0 g1 g2 g3 g4 g5 g6 g7 g8 g9 g10 g11 g12 g13 g14 HStep hP2
            go_wp2_with fail
            refine HLk.out.mono ?_
            rintro e w3 ⟨rfl, hP3⟩
            have HP3 := hid hP3
            clear hP3 HLk
            go_wp2
            go_roundw
            case rel => exact ⟨k + 1, nv2, nb2, by omega, by go_num, rfl, by rw [Htk1.out]; exact HP3.out, by omega, by omega⟩
            case measure => simp [intOf]; omega
    · have hbl' := HP.out.bl
      clear HP
      go_wp2
      go_ret
      exact ⟨rfl, hbl'⟩
end Go.Proofs.YtkgjpfamjedncaaGreat
