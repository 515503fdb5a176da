/-
  Listed6: the walk of BezoutListed.
-/
import Derived.Test.YtkikiddoiigbjaaQExtAll6
import Derived.Test.YtkikiddoiigbjaaQGatE6ToDWords
import Derived.Test.YtkikiddoiigbjaaQWakes6
import Derived.Test.YtkikiddoiigbjaaQR5Add
namespace Go.Proofs.Ytkikiddoiigbjaa
open Go.RowKit
set_option linter.unusedVariables false

def LBH (w Ws : World) (L : List Int) (C : Nat → Int) (KS n gk : Nat) (s9 s10 : Value) (wx : World) : Prop :=
  ∃ i : Nat, s10 = .int .i64 (i : Int) ∧ i ≤ n ∧ gk = n - i ∧ GatE w (Ws.heap.size + 1) wx s9 (L.reverse.take i) 1048576 ∧ (∃ m a l c, Duo wx Ws.heap.size (.bool m) (.slice a l c) ∧ Zm 0 wx (.agg #[.bool m, .slice a l c]) (dotN L C i) (KS + i)) ∧ Below Ws.heap.size Ws wx
theorem sign_at {A : Int} (h : 0 ≤ A) : ¬ cmpI A 0 < 0 := by unfold cmpI; split <;> omega
set_option maxHeartbeats 6400000 in
set_option maxRecDepth 100000 in
theorem bezoutListed_any {w : World} {v vn : Value} {L : List Int} {N : Int} {k : Nat} (hv : Zl w v L k) (hn : Zi w vn N 1048576) (h1 : 1 ≤ k) (hk : L.length + k ≤ 1048577) (hk1 : k ≤ 1048576) (hl : L.length < 1048576) :
    Calls Try.prog 3 #[v, vn] w fun e w' => e = .returned (.bool true) ∧ Below w.heap.size w w' := by
  have V0 := hid hv
  obtain ⟨a0, c0, rfl, hc0, hn0, hf0⟩ := hv.form9
  obtain ⟨n, hn'⟩ : ∃ n, L.length = n := ⟨_, rfl⟩
  rw [hn'] at V0 hc0 hn0 hk ⊢
  have HN := hid hn'
  have F0 := hid hf0
  have HK := hid hk
  have H1 := hid h1
  have HK1 := hid hk1
  have HL1 := hid hl
  clear hk1 hl
  have ZN := hid hn
  obtain ⟨nn, xn, adn, cn, rfl, -, -, -⟩ := hn
  have HEA : Hid (∀ w', Below w.heap.size w w' → Calls Try.prog 6 #[.slice a0 n c0] w' (ExtAlled w' L k n)) := fun w' b => by
    have q := extAll6 (V0.out.now b) H1.out HK1.out
    rw [HN.out] at q
    exact q
  have HGA : Hid (∀ w', Below w.heap.size w w' → Calls Try.prog 7 #[.slice a0 n c0] w' fun e w'' => ∃ r, e = .returned r ∧ Zm 0 w'' r (gcdL L) k ∧ Below w'.heap.size w' w'') := fun w' b => gcdAll6 (V0.out.now b) (Nat.le_trans HK1.out (by decide))
  have hsg : ¬ cmpI (gcdL L) 0 < 0 := sign_at (gcdL_nonneg L)
  have HSG : Hid (∀ w' v, Zi w' v (gcdL L) k → Calls Try.prog 10 #[v] w' (fun e w'' => e = .returned (.int .i64 (cmpI (gcdL L) 0)) ∧ Below w'.heap.size w' w'')) := fun w' v h => rsign_z h (Nat.le_trans HK1.out (by decide))
  generalize cmpI (gcdL L) 0 = SG at *
  clear hv hf0 hn' hk h1
  obtain ⟨W0, hW⟩ : ∃ W0, w.alloc (duo (.bool nn) (.slice adn xn.length cn)) = W0 := ⟨_, rfl⟩
  obtain ⟨b0, sz0⟩ := alo1 w (duo (.bool nn) (.slice adn xn.length cn))
  rw [hW] at b0 sz0
  have PN : Hid (Duo W0 w.heap.size (.bool nn) (.slice adn xn.length cn)) := by unfold Hid; rw [← hW]; exact Duo.new w _ _
  have G := hid b0
  have EW := hid hW
  clear b0 sz0 hW
  go_enter Try.func3, Try.ntmps3
  go_wp2_with fail
  rw [EW.out]
  clear EW
  refine (wakes6 _).mono ?_
  rintro e w1 ⟨rfl, b⟩
  replace PN := hid (PN.out.step b)
  replace G := hid (below_step G.out b)
  clear b
  go_wp2_with fail
  refine (HEA.out w1 G.out).mono ?_
  rintro e w2 ⟨r, hb, X, Y, rfl, hg, hex, hfc, b⟩
  obtain ⟨ng, xg, ag, cg, rfl⟩ := hg.parts
  have ZG := hid hg
  have FC := hid hfc
  have HEX : Hid (dotN L (mulN X Y n) n = gcdL L) := by
    have q := exts_sum (L := L) (X := X) (Y := Y) (by rw [HN.out]; exact hex)
    rw [HN.out] at q
    exact q
  generalize mulN X Y n = C at *
  replace PN := hid (PN.out.step b)
  replace G := hid (below_step G.out b)
  clear hg hex hfc b HEA
  obtain ⟨V1, hV⟩ : ∃ V1, w2.alloc (duo (.bool ng) (.slice ag xg.length cg)) = V1 := ⟨_, rfl⟩
  obtain ⟨b, sz1⟩ := alo1 w2 (duo (.bool ng) (.slice ag xg.length cg))
  rw [hV] at b sz1
  have PG : Hid (Duo V1 w2.heap.size (.bool ng) (.slice ag xg.length cg)) := by unfold Hid; rw [← hV]; exact Duo.new w2 _ _
  replace PN := hid (PN.out.step b)
  replace G := hid (below_step G.out b)
  replace ZG := hid (ZG.out.now b)
  replace FC := hid (FC.out.step b)
  have EV := hid hV
  clear b sz1 hV
  go_wp2_with fail
  rw [EV.out]
  clear EV
  refine (HGA.out V1 G.out).mono ?_
  rintro e w3 ⟨r, rfl, hh, b⟩
  obtain ⟨nh, xh, ah, ch, rfl⟩ := hh.parts
  have ZH := hid hh
  replace PN := hid (PN.out.step b)
  replace PG := hid (PG.out.step b)
  replace G := hid (below_step G.out b)
  replace ZG := hid (ZG.out.now b)
  replace FC := hid (FC.out.step b)
  clear hh b HGA
  obtain ⟨V2, hV⟩ : ∃ V2, w3.alloc (duo (.bool nh) (.slice ah xh.length ch)) = V2 := ⟨_, rfl⟩
  obtain ⟨b, sz1⟩ := alo1 w3 (duo (.bool nh) (.slice ah xh.length ch))
  rw [hV] at b sz1
  have PH : Hid (Duo V2 w3.heap.size (.bool nh) (.slice ah xh.length ch)) := by unfold Hid; rw [← hV]; exact Duo.new w3 _ _
  replace PN := hid (PN.out.step b)
  replace PG := hid (PG.out.step b)
  replace G := hid (below_step G.out b)
  replace ZG := hid (ZG.out.now b)
  replace ZH := hid (ZH.out.now b)
  replace FC := hid (FC.out.step b)
  have g0 := PG.out.c0
  have g1 := PG.out.c1
  rw [← hV] at g0 g1
  have EV := hid hV
  clear b sz1 hV
  go_wp2_with fail
  rw [EV.out]
  clear EV g0 g1
  refine (least6 ZG.out.zc).mono ?_
  rintro e w4 ⟨rfl, b⟩
  replace PN := hid (PN.out.step b)
  replace PG := hid (PG.out.step b)
  replace PH := hid (PH.out.step b)
  replace FC := hid (FC.out.step b)
  replace ZG := hid (ZG.out.now b)
  replace ZH := hid (ZH.out.now b)
  replace G := hid (below_step G.out b)
  clear b
  have g0 := PG.out.c0
  have g1 := PG.out.c1
  have h0 := PH.out.c0
  have h1 := PH.out.c1
  go_wp2_with fail
  clear g0 g1 h0 h1
  refine (alike6_yes ZG.out.zc ZH.out.zc rfl).mono ?_
  rintro e w5 ⟨rfl, b⟩
  replace PN := hid (PN.out.step b)
  replace PG := hid (PG.out.step b)
  replace PH := hid (PH.out.step b)
  replace FC := hid (FC.out.step b)
  replace ZG := hid (ZG.out.now b)
  replace ZH := hid (ZH.out.now b)
  replace G := hid (below_step G.out b)
  clear b
  have g0 := PG.out.c0
  have g1 := PG.out.c1
  go_wp2_with fail
  clear g0 g1
  refine (HSG.out _ _ ZG.out.zi).mono ?_
  rintro e w6 ⟨rfl, b⟩
  replace PN := hid (PN.out.step b)
  replace PG := hid (PG.out.step b)
  replace PH := hid (PH.out.step b)
  replace FC := hid (FC.out.step b)
  replace ZG := hid (ZG.out.now b)
  replace ZH := hid (ZH.out.now b)
  replace G := hid (below_step G.out b)
  clear b
  clear HSG PH ZH
  obtain ⟨V3, hV⟩ : ∃ V3, w6.alloc zbox = V3 := ⟨_, rfl⟩
  obtain ⟨b, sz1⟩ := alo1 w6 zbox
  rw [hV] at b sz1
  have PS : Hid (Duo V3 w6.heap.size (.bool false) (.slice none 0 0)) := by unfold Hid; rw [← hV]; exact Duo.new w6 _ _
  have H0 : Hid (LBH w w6 L C (n * k + 2 * k + 1) n n (.slice none 0 0) (.int .i64 0) V3) := ⟨0, rfl, Nat.zero_le _, by omega, GatE.nil _ _ _ _, ⟨_, _, _, _, PS.out, zm_zero9 _ _⟩, b⟩
  have hnk : n * k + 3 * k ≤ 600000000000 := by
    have q2 : (n + 3) * k ≤ 600000000000 := by
      rcases Nat.le_total k 524288 with h | h
      · exact Nat.le_trans (Nat.mul_le_mul (show n + 3 ≤ 1048576 + 3 by omega) h) (by decide)
      · exact Nat.le_trans (Nat.mul_le_mul (show n + 3 ≤ 524292 by have := HK.out; omega) HK1.out) (by decide)
    rw [Nat.add_mul] at q2
    exact q2
  have HNK := hid hnk
  have HBX : Hid (w.heap.size < w6.heap.size + 1 ∧ w2.heap.size < w6.heap.size + 1) := ⟨Nat.lt_succ_of_lt PN.out.blk, Nat.lt_succ_of_lt PG.out.blk⟩
  have EV := hid hV
  clear b sz1 hV PS hnk
  go_wp2_with fail
  rw [EV.out]
  clear EV
  go_loopg [9, 10] n (fun gk s9 s10 wx => LBH w w6 L C (n * k + 2 * k + 1) n gk s9 s10 wx)
  case atStart => exact H0.out
  case round =>
    clear H0
    obtain ⟨i, rfl, hin, hgk, hga, ⟨ms, asl, ls, cs, hd, hz⟩, hG⟩ := hrel
    have PS := hid hd
    have ZS := hid hz
    have GA := hid hga
    have GW := hid hG
    have HG := hid hgk
    have GT : Hid (Below w.heap.size w wr) := below_step G.out GW.out
    clear hd hz hga hG hgk
    by_cases hlt : i < n
    · have hlt' : (i : Int) < (n : Int) := by omega
      obtain ⟨b1, o1, rfl⟩ := F0.out (fun e => by have := HN.out; rw [e] at this; simp at this; omega)
      have hiL : i < L.length := by rw [HN.out]; exact hlt
      obtain ⟨nf, xf, adf, qf, k2w, k3w, zfw⟩ := V0.out.at9 (i := i) hiL
      have k2 := cnow GT.out k2w
      have k3 := cnow GT.out k3w
      have ZF := hid (zfw.now GT.out)
      obtain ⟨mc, ac, lc, cc, k0, k1, hzc, -, -⟩ := (FC.out.step GW.out).at (j := i) hlt (Nat.le_refl _)
      have ZC := hid hzc
      have g0 := (PG.out.step GW.out).c0
      have g1 := (PG.out.step GW.out).c1
      have HDV : Hid (gcdL L ∣ L[i]) := (gcdL_dvd _ L).1 (Int.dvd_refl _) _ (List.getElem_mem hiL)
      have HDN : Hid (L[i] * C i + dotN L C i = dotN L C (i + 1)) := by unfold Hid; show _ = L.getD i 0 * C i + dotN L C i; rw [List.getD_eq_getElem?_getD, List.getElem?_eq_getElem hiL]; rfl
      have HKB : Hid (k ≤ 1099511627776) := Nat.le_trans HK1.out (by decide)
      have HS1 : Hid (∀ w', Below wr.heap.size wr w' → Calls Try.prog 8 #[.agg #[.bool mc, .slice ac lc cc]] w' fun e w'' => e = .returned (.bool true) ∧ Below w'.heap.size w' w'') := fun w' b => least6 (ZC.out.now b).zc
      have HS2 : Hid (∀ w', Below wr.heap.size wr w' → Calls Try.prog 11 #[.agg #[.bool ng, .slice ag xg.length cg], .agg #[.bool nf, .slice adf xf.length qf]] w' fun e w'' => e = .returned (.bool true) ∧ Below w'.heap.size w' w'') := fun w' b => divides6 ((ZG.out.now GW.out).now b).zi (ZF.out.now b) HKB.out HKB.out HDV.out
      obtain ⟨j, hj⟩ : ∃ j, n = j + i + 1 := ⟨n - 1 - i, by omega⟩
      have HJ := hid hj
      have hjL : j < L.length := by rw [HN.out]; omega
      obtain ⟨ne, xe, ade, qe, k4w, k5w, zew⟩ := V0.out.at9 (i := j) hjL
      have ZE := hid (zew.more HK1.out)
      have k4 := cnow GT.out k4w
      have k5 := cnow GT.out k5w
      have K4 := hid k4w
      have K5 := hid k5w
      have HREV : Hid (L.reverse.take (i + 1) = L.reverse.take i ++ [L[j]]) := by
        unfold Hid
        rw [reverse_take hiL]
        have e : L.length - 1 - i = j := by rw [HN.out]; omega
        simp only [e]
      have HRL : Hid ((L.reverse.take i).length = i) := by unfold Hid; rw [List.length_take, List.length_reverse, HN.out]; omega
      have hw1 : IntKind.i64.wrap ((n : Int) - 1) = (n : Int) - 1 := by rw [wrap_is] <;> omega
      have hw2 : IntKind.i64.wrap ((n : Int) - 1 - (i : Int)) = (j : Int) := by rw [wrap_is] <;> omega
      have hjn : (j : Int) < (n : Int) := by omega
      have hw := wrapI9 (i := i) (by omega)
      generalize L[i] = Li at *
      generalize L[j] = Lj at *
      clear k2w k3w zfw hzc k4w k5w zew hj hiL hjL k4 k5 HDV HKB
      go_wp2_with fail
      have KB : Hid (∀ w', Below wr.heap.size wr w' → w'.cell? ⟨hb, i * 2, none⟩ = some (.bool mc) ∧ w'.cell? ⟨hb, i * 2 + 1, none⟩ = some (.slice ac lc cc) ∧ w'.cell? ⟨w2.heap.size, 0, none⟩ = some (.bool ng) ∧ w'.cell? ⟨w2.heap.size, 1, none⟩ = some (.slice ag xg.length cg) ∧ w'.cell? ⟨b1, o1 + i * 2, none⟩ = some (.bool nf) ∧ w'.cell? ⟨b1, o1 + i * 2 + 1, none⟩ = some (.slice adf xf.length qf)) := fun w' h => ⟨cnow h k0, cnow h k1, cnow h g0, cnow h g1, cnow h k2, cnow h k3⟩
      refine wp_region_tail (fun w' => w'.cell? ⟨hb, i * 2, none⟩ = some (.bool mc) ∧ w'.cell? ⟨hb, i * 2 + 1, none⟩ = some (.slice ac lc cc) ∧ w'.cell? ⟨w2.heap.size, 0, none⟩ = some (.bool ng) ∧ w'.cell? ⟨w2.heap.size, 1, none⟩ = some (.slice ag xg.length cg) ∧ w'.cell? ⟨b1, o1 + i * 2, none⟩ = some (.bool nf) ∧ w'.cell? ⟨b1, o1 + i * 2 + 1, none⟩ = some (.slice adf xf.length qf)) 14 (by kernel_rfl) ?_
      obtain ⟨D21, hD⟩ : ∃ D21, wr.drew = D21 := ⟨_, rfl⟩
      have GB : Hid (Below wr.heap.size wr D21) := by unfold Hid; rw [← hD]; exact (Below.refl _ _).drew
      rw [hD]
      clear hD
      refine wpAnyT_take (i := 0) (oi := { dst := some 48, op := Op.move (Operand.tmp 6), type := 22, pos := "plain.go:83", after := #[], guard := none }) (v := (.slice (some ⟨hb, 0, none⟩) n n)) rfl (by kernel_rfl) (fun _ _ _ h => h) (Or.inl ⟨by rfl, ?_⟩) (KB.out _ GB.out) ?_
      · intro w hSw
        (try dsimp only at hSw)
        go_simp
      simp only [Act.put, List.setIfInBounds_toArray, List.set_cons_zero, List.set_cons_succ]
      refine wpAnyT_take (i := 1) (oi := { dst := some 49, op := Op.move (Operand.tmp 10), type := 3, pos := "plain.go:83", after := #[], guard := none }) (v := (.int .i64 (i : Int))) rfl (by kernel_rfl) (fun _ _ _ h => h) (Or.inl ⟨by rfl, ?_⟩) (KB.out _ GB.out) ?_
      · intro w hSw
        (try dsimp only at hSw)
        go_simp
      simp only [Act.put, List.setIfInBounds_toArray, List.set_cons_zero, List.set_cons_succ]
      refine wpAnyT_take (i := 2) (oi := { dst := some 50, op := Op.indexAddr 22 (Operand.tmp 48) (Operand.tmp 49), type := 0, pos := "plain.go:83", after := #[{ on := 0, ground := Ground.data }, { on := 1, ground := Ground.data }], guard := none }) (v := (.pointer (some ⟨hb, i * 2, none⟩))) rfl (by kernel_rfl) (fun _ _ _ h => h) (Or.inl ⟨by rfl, ?_⟩) (KB.out _ GB.out) ?_
      · intro w hSw
        (try dsimp only at hSw)
        go_simp
      simp only [Act.put, List.setIfInBounds_toArray, List.set_cons_zero, List.set_cons_succ]
      refine wpAnyT_take (i := 3) (oi := { dst := some 51, op := Op.load 25 (Operand.tmp 50), type := 25, pos := "plain.go:83", after := #[{ on := 2, ground := Ground.data }], guard := none }) (v := (.agg #[.bool mc, .slice ac lc cc])) rfl (by kernel_rfl) (fun _ _ _ h => h) (Or.inl ⟨by rfl, ?_⟩) (KB.out _ GB.out) ?_
      · intro w hSw
        (try dsimp only at hSw)
        go_simp
      simp only [Act.put, List.setIfInBounds_toArray, List.set_cons_zero, List.set_cons_succ]
      refine wpAnyT_one (i := 4) (o := { dst := some 52, op := Op.call { callee := Callee.value (Operand.func 8), args := #[Operand.tmp 51], argTypes := #[25] }, type := 4, pos := "plain.go:83", after := #[{ on := 3, ground := Ground.data }], guard := none }) (by kernel_rfl) rfl (fun K hK => ?_)
      go_simp
      go_at_call 8
      refine (HS1.out _ GB.out).mono ?_
      rintro e w22 ⟨rfl, b⟩
      have lz22 := (show Below _ _ _ from b).size
      replace GB := hid (below_step GB.out b)
      clear b
      refine hK.out _ _ (fun _ => KB.out _ GB.out) ?_
      clear hK
      refine wpAnyT_take (i := 5) (oi := { dst := some 53, op := Op.unOp UnOp.not 4 (Operand.tmp 52), type := 4, pos := "plain.go:83", after := #[{ on := 4, ground := Ground.data }], guard := none }) (v := (.bool false)) rfl (by kernel_rfl) (fun _ _ _ h => h) (Or.inl ⟨by rfl, ?_⟩) (KB.out _ GB.out) ?_
      · intro w hSw
        (try dsimp only at hSw)
        go_simp
      simp only [Act.put, List.setIfInBounds_toArray, List.set_cons_zero, List.set_cons_succ]
      refine wpAnyT_take (i := 6) (oi := { dst := some 54, op := Op.move (Operand.tmp 53), type := 4, pos := "plain.go:83", after := #[{ on := 5, ground := Ground.data }, { on := 4, ground := Ground.chain }], guard := none }) (v := (.bool false)) rfl (by kernel_rfl) (fun _ _ _ h => h) (Or.inl ⟨by rfl, ?_⟩) (KB.out _ GB.out) ?_
      · intro w hSw
        (try dsimp only at hSw)
        go_simp
      simp only [Act.put, List.setIfInBounds_toArray, List.set_cons_zero, List.set_cons_succ]
      refine wpAnyT_take (i := 7) (oi := { dst := some 55, op := Op.load 25 (Operand.tmp 5), type := 25, pos := "plain.go:83", after := #[{ on := 6, ground := Ground.guard }], guard := some (6, false) }) (v := (.agg #[.bool ng, .slice ag xg.length cg])) rfl (by kernel_rfl) (fun _ _ _ h => h) (Or.inl ⟨by rfl, ?_⟩) (KB.out _ GB.out) ?_
      · intro w hSw
        (try dsimp only at hSw)
        go_simp
      simp only [Act.put, List.setIfInBounds_toArray, List.set_cons_zero, List.set_cons_succ]
      refine wpAnyT_take (i := 8) (oi := { dst := some 56, op := Op.move (Operand.tmp 0), type := 22, pos := "plain.go:83", after := #[{ on := 6, ground := Ground.guard }], guard := some (6, false) }) (v := (.slice (some ⟨b1, o1, none⟩) n c0)) rfl (by kernel_rfl) (fun _ _ _ h => h) (Or.inl ⟨by rfl, ?_⟩) (KB.out _ GB.out) ?_
      · intro w hSw
        (try dsimp only at hSw)
        go_simp
      simp only [Act.put, List.setIfInBounds_toArray, List.set_cons_zero, List.set_cons_succ]
      refine wpAnyT_take (i := 9) (oi := { dst := some 57, op := Op.move (Operand.tmp 10), type := 3, pos := "plain.go:83", after := #[{ on := 6, ground := Ground.guard }], guard := some (6, false) }) (v := (.int .i64 (i : Int))) rfl (by kernel_rfl) (fun _ _ _ h => h) (Or.inl ⟨by rfl, ?_⟩) (KB.out _ GB.out) ?_
      · intro w hSw
        (try dsimp only at hSw)
        go_simp
      simp only [Act.put, List.setIfInBounds_toArray, List.set_cons_zero, List.set_cons_succ]
      refine wpAnyT_take (i := 10) (oi := { dst := some 58, op := Op.indexAddr 22 (Operand.tmp 56) (Operand.tmp 57), type := 0, pos := "plain.go:83", after := #[{ on := 8, ground := Ground.data }, { on := 9, ground := Ground.data }, { on := 6, ground := Ground.guard }], guard := some (6, false) }) (v := (.pointer (some ⟨b1, o1 + i * 2, none⟩))) rfl (by kernel_rfl) (fun _ _ _ h => h) (Or.inl ⟨by rfl, ?_⟩) (KB.out _ GB.out) ?_
      · intro w hSw
        (try dsimp only at hSw)
        go_simp
      simp only [Act.put, List.setIfInBounds_toArray, List.set_cons_zero, List.set_cons_succ]
      refine wpAnyT_take (i := 11) (oi := { dst := some 59, op := Op.load 25 (Operand.tmp 58), type := 25, pos := "plain.go:83", after := #[{ on := 10, ground := Ground.data }, { on := 6, ground := Ground.guard }], guard := some (6, false) }) (v := (.agg #[.bool nf, .slice adf xf.length qf])) rfl (by kernel_rfl) (fun _ _ _ h => h) (Or.inl ⟨by rfl, ?_⟩) (KB.out _ GB.out) ?_
      · intro w hSw
        (try dsimp only at hSw)
        go_simp
      simp only [Act.put, List.setIfInBounds_toArray, List.set_cons_zero, List.set_cons_succ]
      refine wpAnyT_one (i := 12) (o := { dst := some 60, op := Op.call { callee := Callee.value (Operand.func 11), args := #[Operand.tmp 55, Operand.tmp 59], argTypes := #[25, 25] }, type := 4, pos := "plain.go:83", after := #[{ on := 7, ground := Ground.data }, { on := 11, ground := Ground.data }, { on := 6, ground := Ground.chain }, { on := 6, ground := Ground.guard }], guard := some (6, false) }) (by kernel_rfl) rfl (fun K hK => ?_)
      go_simp
      go_at_call 11
      refine (HS2.out _ GB.out).mono ?_
      rintro e w23 ⟨rfl, b⟩
      have lz23 := (show Below _ _ _ from b).size
      replace GB := hid (below_step GB.out b)
      clear b
      refine hK.out _ _ (fun _ => KB.out _ GB.out) ?_
      clear hK
      refine wpAnyT_take (i := 13) (oi := { dst := some 61, op := Op.unOp UnOp.not 4 (Operand.tmp 60), type := 4, pos := "plain.go:83", after := #[{ on := 12, ground := Ground.data }, { on := 6, ground := Ground.guard }], guard := some (6, false) }) (v := (.bool false)) rfl (by kernel_rfl) (fun _ _ _ h => h) (Or.inl ⟨by rfl, ?_⟩) (KB.out _ GB.out) ?_
      · intro w hSw
        (try dsimp only at hSw)
        go_simp
      simp only [Act.put, List.setIfInBounds_toArray, List.set_cons_zero, List.set_cons_succ]
      refine wpAnyT_one (i := 14) (o := { dst := some 62, op := Op.pick (Operand.tmp 54) (Operand.const (Value.bool true)) (Operand.tmp 61), type := 4, pos := "plain.go:83", after := #[{ on := 6, ground := Ground.data }, { on := 13, ground := Ground.data }], guard := none }) (by kernel_rfl) rfl (fun K hK => ?_)
      go_simp
      refine hK.out _ _ (fun h => absurd h (by decide)) ?_
      clear hK
      try simp only [Act.put]
      refine wpAnyT_done (by kernel_rfl) ?_ _
      have GQ : Hid (Below wr.heap.size wr w23) := GB
      replace k0 := cnow GQ.out k0
      replace k1 := cnow GQ.out k1
      replace k2 := cnow GQ.out k2
      replace k3 := cnow GQ.out k3
      clear HS1 HS2 GB KB g0 g1
      replace PS := hid (PS.out.step GQ.out)
      replace ZS := hid (ZS.out.now GQ.out)
      replace GA := hid (GA.out.now GQ.out)
      replace GW := hid (below_step GW.out GQ.out)
      replace GT := hid (below_step GT.out GQ.out)
      replace ZF := hid (ZF.out.now GQ.out)
      replace ZC := hid (ZC.out.now GQ.out)
      clear GQ
      go_wp2_with fail
      have s0 := PS.out.c0
      have s1 := PS.out.c1
      have HS3 : Hid (∀ w', Below w23.heap.size w23 w' → Calls Try.prog 12 #[.agg #[.bool nf, .slice adf xf.length qf], .agg #[.bool mc, .slice ac lc cc], .agg #[.bool ms, .slice asl ls cs]] w' (GivesZ w' (Li * C i + dotN L C i) (max (k + (n * k + k + 1)) (n * k + 2 * k + 1 + i) + 1))) := fun w' b => rmulAdd_z (ZF.out.now b) (ZC.out.now b).zi (ZS.out.now b).zi (by have := HNK.out; omega) (by have := HNK.out; omega)
      have KB : Hid (∀ w', Below w23.heap.size w23 w' → w'.cell? ⟨b1, o1 + i * 2, none⟩ = some (.bool nf) ∧ w'.cell? ⟨b1, o1 + i * 2 + 1, none⟩ = some (.slice adf xf.length qf) ∧ w'.cell? ⟨hb, i * 2, none⟩ = some (.bool mc) ∧ w'.cell? ⟨hb, i * 2 + 1, none⟩ = some (.slice ac lc cc) ∧ w'.cell? ⟨w6.heap.size, 0, none⟩ = some (.bool ms) ∧ w'.cell? ⟨w6.heap.size, 1, none⟩ = some (.slice asl ls cs)) := fun w' h => ⟨cnow h k2, cnow h k3, cnow h k0, cnow h k1, cnow h s0, cnow h s1⟩
      refine wp_region_tail (fun w' => w'.cell? ⟨b1, o1 + i * 2, none⟩ = some (.bool nf) ∧ w'.cell? ⟨b1, o1 + i * 2 + 1, none⟩ = some (.slice adf xf.length qf) ∧ w'.cell? ⟨hb, i * 2, none⟩ = some (.bool mc) ∧ w'.cell? ⟨hb, i * 2 + 1, none⟩ = some (.slice ac lc cc) ∧ w'.cell? ⟨w6.heap.size, 0, none⟩ = some (.bool ms) ∧ w'.cell? ⟨w6.heap.size, 1, none⟩ = some (.slice asl ls cs)) 10 (by kernel_rfl) ?_
      obtain ⟨D31, hD⟩ : ∃ D31, w23.drew = D31 := ⟨_, rfl⟩
      have GB : Hid (Below w23.heap.size w23 D31) := by unfold Hid; rw [← hD]; exact (Below.refl _ _).drew
      rw [hD]
      clear hD
      have GBs := GB
      refine wpAnyT_take (i := 0) (oi := { dst := some 63, op := Op.move (Operand.tmp 0), type := 22, pos := "plain.go:86", after := #[], guard := none }) (v := (.slice (some ⟨b1, o1, none⟩) n c0)) rfl (by kernel_rfl) (fun _ _ _ h => h) (Or.inl ⟨by rfl, ?_⟩) (KB.out _ GB.out) ?_
      · intro w hSw
        (try dsimp only at hSw)
        go_simp
      simp only [Act.put, List.setIfInBounds_toArray, List.set_cons_zero, List.set_cons_succ]
      refine wpAnyT_take (i := 1) (oi := { dst := some 64, op := Op.move (Operand.tmp 10), type := 3, pos := "plain.go:86", after := #[], guard := none }) (v := (.int .i64 (i : Int))) rfl (by kernel_rfl) (fun _ _ _ h => h) (Or.inl ⟨by rfl, ?_⟩) (KB.out _ GB.out) ?_
      · intro w hSw
        (try dsimp only at hSw)
        go_simp
      simp only [Act.put, List.setIfInBounds_toArray, List.set_cons_zero, List.set_cons_succ]
      refine wpAnyT_take (i := 2) (oi := { dst := some 65, op := Op.indexAddr 22 (Operand.tmp 63) (Operand.tmp 64), type := 0, pos := "plain.go:86", after := #[{ on := 0, ground := Ground.data }, { on := 1, ground := Ground.data }], guard := none }) (v := (.pointer (some ⟨b1, o1 + i * 2, none⟩))) rfl (by kernel_rfl) (fun _ _ _ h => h) (Or.inl ⟨by rfl, ?_⟩) (KB.out _ GB.out) ?_
      · intro w hSw
        (try dsimp only at hSw)
        go_simp
      simp only [Act.put, List.setIfInBounds_toArray, List.set_cons_zero, List.set_cons_succ]
      refine wpAnyT_take (i := 3) (oi := { dst := some 66, op := Op.load 25 (Operand.tmp 65), type := 25, pos := "plain.go:86", after := #[{ on := 2, ground := Ground.data }], guard := none }) (v := (.agg #[.bool nf, .slice adf xf.length qf])) rfl (by kernel_rfl) (fun _ _ _ h => h) (Or.inl ⟨by rfl, ?_⟩) (KB.out _ GB.out) ?_
      · intro w hSw
        (try dsimp only at hSw)
        go_simp
      simp only [Act.put, List.setIfInBounds_toArray, List.set_cons_zero, List.set_cons_succ]
      refine wpAnyT_take (i := 4) (oi := { dst := some 67, op := Op.move (Operand.tmp 6), type := 22, pos := "plain.go:86", after := #[], guard := none }) (v := (.slice (some ⟨hb, 0, none⟩) n n)) rfl (by kernel_rfl) (fun _ _ _ h => h) (Or.inl ⟨by rfl, ?_⟩) (KB.out _ GB.out) ?_
      · intro w hSw
        (try dsimp only at hSw)
        go_simp
      simp only [Act.put, List.setIfInBounds_toArray, List.set_cons_zero, List.set_cons_succ]
      refine wpAnyT_take (i := 5) (oi := { dst := some 68, op := Op.move (Operand.tmp 10), type := 3, pos := "plain.go:86", after := #[], guard := none }) (v := (.int .i64 (i : Int))) rfl (by kernel_rfl) (fun _ _ _ h => h) (Or.inl ⟨by rfl, ?_⟩) (KB.out _ GB.out) ?_
      · intro w hSw
        (try dsimp only at hSw)
        go_simp
      simp only [Act.put, List.setIfInBounds_toArray, List.set_cons_zero, List.set_cons_succ]
      refine wpAnyT_take (i := 6) (oi := { dst := some 69, op := Op.indexAddr 22 (Operand.tmp 67) (Operand.tmp 68), type := 0, pos := "plain.go:86", after := #[{ on := 4, ground := Ground.data }, { on := 5, ground := Ground.data }], guard := none }) (v := (.pointer (some ⟨hb, i * 2, none⟩))) rfl (by kernel_rfl) (fun _ _ _ h => h) (Or.inl ⟨by rfl, ?_⟩) (KB.out _ GB.out) ?_
      · intro w hSw
        (try dsimp only at hSw)
        go_simp
      simp only [Act.put, List.setIfInBounds_toArray, List.set_cons_zero, List.set_cons_succ]
      refine wpAnyT_take (i := 7) (oi := { dst := some 70, op := Op.load 25 (Operand.tmp 69), type := 25, pos := "plain.go:86", after := #[{ on := 6, ground := Ground.data }], guard := none }) (v := (.agg #[.bool mc, .slice ac lc cc])) rfl (by kernel_rfl) (fun _ _ _ h => h) (Or.inl ⟨by rfl, ?_⟩) (KB.out _ GB.out) ?_
      · intro w hSw
        (try dsimp only at hSw)
        go_simp
      simp only [Act.put, List.setIfInBounds_toArray, List.set_cons_zero, List.set_cons_succ]
      refine wpAnyT_take (i := 8) (oi := { dst := some 71, op := Op.load 25 (Operand.tmp 8), type := 25, pos := "plain.go:86", after := #[], guard := none }) (v := (.agg #[.bool ms, .slice asl ls cs])) rfl (by kernel_rfl) (fun _ _ _ h => h) (Or.inl ⟨by rfl, ?_⟩) (KB.out _ GB.out) ?_
      · intro w hSw
        (try dsimp only at hSw)
        go_simp
      simp only [Act.put, List.setIfInBounds_toArray, List.set_cons_zero, List.set_cons_succ]
      refine wpAnyT_one (i := 9) (o := { dst := some 72, op := Op.call { callee := Callee.value (Operand.func 12), args := #[Operand.tmp 66, Operand.tmp 70, Operand.tmp 71], argTypes := #[25, 25, 25] }, type := 25, pos := "plain.go:86", after := #[{ on := 3, ground := Ground.data }, { on := 7, ground := Ground.data }, { on := 8, ground := Ground.data }], guard := none }) (by kernel_rfl) rfl (fun K hK => ?_)
      go_simp
      go_at_call 12
      refine (HS3.out _ GB.out).mono ?_
      rintro e w32 ⟨r, rfl, m1, b⟩
      have lz32 := (show Below _ _ _ from b).size
      replace GB := hid (below_step GB.out b)
      have BQ : Below w23.heap.size w23 w32 := below_step GBs.out b
      replace PS := hid (PS.out.step BQ)
      replace GA := hid (GA.out.now BQ)
      replace GW := hid (below_step GW.out BQ)
      replace GT := hid (below_step GT.out BQ)
      have MZ : Hid (Zm 0 w32 r (dotN L C (i + 1)) (n * k + 2 * k + 1 + (i + 1))) := by
        have q := (m1.mono (Nat.zero_le _)).more (l := n * k + 2 * k + 1 + (i + 1)) (by omega)
        rw [HDN.out] at q
        exact q
      obtain ⟨nr, xr, ar, cr, rfl⟩ := m1.parts
      clear m1 BQ
      clear b
      refine hK.out _ _ (fun _ => KB.out _ GB.out) ?_
      clear hK
      refine wpAnyT_one (i := 10) (o := { dst := none, op := Op.store 25 (Operand.tmp 8) (Operand.tmp 72), type := 0, pos := "plain.go:86", after := #[{ on := 9, ground := Ground.data }, { on := 9, ground := Ground.chain }, { on := 0, ground := Ground.phase }, { on := 1, ground := Ground.phase }, { on := 2, ground := Ground.phase }, { on := 3, ground := Ground.phase }, { on := 4, ground := Ground.phase }, { on := 5, ground := Ground.phase }, { on := 6, ground := Ground.phase }, { on := 7, ground := Ground.phase }, { on := 8, ground := Ground.phase }, { on := 9, ground := Ground.phase }], guard := none }) (by kernel_rfl) rfl (fun K hK => ?_)
      have e0 := PS.out.c0
      have e1 := PS.out.c1
      have e2 := PS.out.fz 0
      have e3 := PS.out.fz 1
      go_simp
      clear e0 e1 e2 e3
      obtain ⟨V33, hW⟩ : ∃ V33, ((w32.setCell ⟨w6.heap.size, 0, none⟩ (.bool nr)).setCell ⟨w6.heap.size, 1, none⟩ (.slice ar xr.length cr)) = V33 := ⟨_, rfl⟩
      replace GA := hid (GA.out.box PS.out (Nat.lt_succ_self _) (.bool nr) (.slice ar xr.length cr))
      replace MZ := hid (MZ.out.box PS.out (.bool nr) (.slice ar xr.length cr))
      replace PS := hid (PS.out.set (.bool nr) (.slice ar xr.length cr))
      replace GW := hid (bset (g := w6.heap.size) (j := 1) (u := .slice ar xr.length cr) (bset (g := w6.heap.size) (j := 0) (u := .bool nr) GW.out (Nat.le_refl _)) (Nat.le_refl _))
      replace GT := hid (bset (g := w6.heap.size) (j := 1) (u := .slice ar xr.length cr) (bset (g := w6.heap.size) (j := 0) (u := .bool nr) GT.out G.out.size) G.out.size)
      rw [hW] at GA PS MZ GW GT
      clear ZS ZF ZC HDN
      rw [hW]
      clear hW
      refine hK.out _ _ (fun h => absurd h (by decide)) ?_
      clear hK
      try simp only [Act.put]
      refine wpAnyT_done (by kernel_rfl) ?_ _
      clear HS3 GB GBs KB k0 k1 k2 k3 s0 s1
      have k4 := cnow GT.out K4.out
      have k5 := cnow GT.out K5.out
      obtain ⟨V5, hV⟩ : ∃ V5, V33.alloc (duo (.bool ne) (.slice ade xe.length qe)) = V5 := ⟨_, rfl⟩
      obtain ⟨b, sz5⟩ := alo1 V33 (duo (.bool ne) (.slice ade xe.length qe))
      rw [hV] at b sz5
      have hc6 : Hid (Duo V5 V33.heap.size (.bool ne) (.slice ade xe.length qe)) := by unfold Hid; rw [← hV]; exact Duo.new V33 _ _
      replace PS := hid (PS.out.step b)
      replace MZ := hid (MZ.out.now b)
      replace GA := hid (GA.out.now b)
      replace GW := hid (below_step GW.out b)
      have HSB : Hid (w6.heap.size + 1 ≤ V5.heap.size) := PS.out.blk
      have HLN : Hid ((L.reverse.take i).length ≤ 1048576) := by unfold Hid; rw [HRL.out]; omega
      have EV := hid hV
      clear b sz5 hV GT K4 K5
      obtain ⟨zs, hzs⟩ : ∃ zs, L.reverse.take i = zs := ⟨_, rfl⟩
      rw [hzs] at GA HREV HRL HLN
      have HZ := hid hzs
      clear hzs
      go_wp2_with (at_builtin; rw [EV.out]; refine wpList_append_e _ rfl (.tmp 73) (.tmp 82) rfl w (w6.heap.size + 1) 1048576 _ _ _ zs Lj rfl GA.out V33.heap.size rfl hc6.out.c0 hc6.out.c1 (.inl ZE.out) HLN.out HSB.out ?_)
      intro a7 cap7 w7 hga hty hbw hbl hob
      rw [HRL.out, ← HREV.out] at hga
      have HN1 : Hid (LBH w w6 L C (n * k + 2 * k + 1) n (n - (i + 1)) (.slice a7 (i + 1) cap7) (.int .i64 ((i + 1 : Nat) : Int)) w7) :=
        ⟨i + 1, rfl, by omega, rfl, hga.out, ⟨_, _, _, _, PS.out.below hbw.out (Nat.lt_succ_self _), MZ.out.ty hty.out (by decide)⟩, GW.out.trans (hbw.out.mono (by omega))⟩
      have HMM : Hid (n - (i + 1) < gk) := by unfold Hid; rw [HG.out]; omega
      rw [HRL.out]
      clear hga hty hbw hbl hob PS MZ GA GW HSB HLN EV HG hc6 k4 k5 ZE HREV HRL HJ HZ
      go_wp2_with fail
      go_roundg (n - (i + 1))
      case rel => exact HN1.out
      case measure => exact HMM.out
    · have hlt' : ¬ (i : Int) < (n : Int) := by omega
      obtain rfl : n = i := by omega
      rw [HEX.out] at ZS
      have HRV : Hid (L.reverse.take n = L.reverse) := by unfold Hid; exact List.take_of_length_le (by rw [List.length_reverse, HN.out]; exact Nat.le_refl _)
      rw [HRV.out] at GA
      have HLR : Hid (L.reverse.length ≤ 1048576) := by unfold Hid; rw [List.length_reverse, HN.out]; exact hn0
      have HSB0 : Hid (w6.heap.size + 1 ≤ wr.heap.size) := PS.out.blk
      have PN1 := hid (PN.out.step GW.out)
      have PG1 := hid (PG.out.step GW.out)
      have ZG1 := hid (ZG.out.now GW.out)
      have s0 := PS.out.c0
      have s1 := PS.out.c1
      have g0 := PG1.out.c0
      have g1 := PG1.out.c1
      have HQ : Hid (n * k + 2 * k + 1 + n ≤ 1099511627776) := by have := HNK.out; unfold Hid; omega
      have HQ2 : Hid (k ≤ n * k + 2 * k + 1 + n) := by unfold Hid; omega
      clear HEX HRV HNK HG FC PG PN ZG F0 V0
      go_wp2_with fail
      refine (equal6 ZS.out.zi (ZG1.out.zi.more HQ2.out) HQ.out rfl).mono ?_
      rintro e w11 ⟨rfl, b⟩
      replace PN1 := hid (PN1.out.step b)
      replace PG1 := hid (PG1.out.step b)
      replace ZG1 := hid (ZG1.out.now b)
      replace GA := hid (GA.out.now b)
      replace GT := hid (below_step GT.out b)
      replace HSB0 := hid (Nat.le_trans HSB0.out (show Below _ _ _ from b).size)
      clear b HQ HQ2 ZS PS s0 s1 g0 g1 GW
      have g0 := PG1.out.c0
      have g1 := PG1.out.c1
      have HGL : Hid (∀ w', Below w11.heap.size w11 w' → Calls Try.prog 7 #[u9] w' fun e w'' => ∃ r, e = .returned r ∧ Zm 0 w'' r (gcdL L) 1048576 ∧ Below w'.heap.size w' w'') := fun w' b => by
        have q := gcdAll6 ((GA.out.zl HLR.out GT.out).now b) (by decide)
        rw [gcdL_reverse] at q
        exact q
      go_wp2_with fail
      have KB : Hid (∀ w', Below w11.heap.size w11 w' → w'.cell? ⟨w2.heap.size, 0, none⟩ = some (.bool ng) ∧ w'.cell? ⟨w2.heap.size, 1, none⟩ = some (.slice ag xg.length cg)) := fun w' h => ⟨cnow h g0, cnow h g1⟩
      refine wp_region_tail (fun w' => w'.cell? ⟨w2.heap.size, 0, none⟩ = some (.bool ng) ∧ w'.cell? ⟨w2.heap.size, 1, none⟩ = some (.slice ag xg.length cg)) 4 (by kernel_rfl) ?_
      obtain ⟨D41, hD⟩ : ∃ D41, w11.drew = D41 := ⟨_, rfl⟩
      have GB : Hid (Below w11.heap.size w11 D41) := by unfold Hid; rw [← hD]; exact (Below.refl _ _).drew
      rw [hD]
      clear hD
      refine wpAnyT_take (i := 0) (oi := { dst := some 88, op := Op.move (Operand.tmp 9), type := 22, pos := "plain.go:92", after := #[], guard := none }) (v := u9) rfl (by kernel_rfl) (fun _ _ _ h => h) (Or.inl ⟨by rfl, ?_⟩) (KB.out _ GB.out) ?_
      · intro w hSw
        (try dsimp only at hSw)
        go_simp
      simp only [Act.put, List.setIfInBounds_toArray, List.set_cons_zero, List.set_cons_succ]
      refine wpAnyT_take (i := 2) (oi := { dst := some 90, op := Op.load 25 (Operand.tmp 5), type := 25, pos := "plain.go:92", after := #[], guard := none }) (v := (.agg #[.bool ng, .slice ag xg.length cg])) rfl (by kernel_rfl) (fun _ _ _ h => h) (Or.inl ⟨by rfl, ?_⟩) (KB.out _ GB.out) ?_
      · intro w hSw
        (try dsimp only at hSw)
        go_simp
      simp only [Act.put, List.setIfInBounds_toArray, List.set_cons_zero, List.set_cons_succ]
      refine wpAnyT_one (i := 1) (o := { dst := some 89, op := Op.call { callee := Callee.value (Operand.func 7), args := #[Operand.tmp 88], argTypes := #[22] }, type := 25, pos := "plain.go:92", after := #[{ on := 0, ground := Ground.data }], guard := none }) (by kernel_rfl) rfl (fun K hK => ?_)
      go_simp
      go_at_call 7
      refine (HGL.out _ GB.out).mono ?_
      rintro e w42 ⟨r, rfl, m1, b⟩
      have lz42 := (show Below _ _ _ from b).size
      replace GB := hid (below_step GB.out b)
      have ZB := hid m1
      obtain ⟨nb, xb, ab, cb, rfl⟩ := m1.parts
      clear m1
      clear b
      refine hK.out _ _ (fun _ => KB.out _ GB.out) ?_
      clear hK
      refine wpAnyT_one (i := 3) (o := { dst := some 91, op := Op.call { callee := Callee.value (Operand.func 9), args := #[Operand.tmp 89, Operand.tmp 90], argTypes := #[25, 25] }, type := 4, pos := "plain.go:92", after := #[{ on := 1, ground := Ground.data }, { on := 2, ground := Ground.data }, { on := 1, ground := Ground.chain }], guard := none }) (by kernel_rfl) rfl (fun K hK => ?_)
      go_simp
      go_at_call 9
      refine (alike6_yes ZB.out.zc (ZG1.out.now GB.out).zc rfl).mono ?_
      rintro e w43 ⟨rfl, b⟩
      have lz43 := (show Below _ _ _ from b).size
      replace GB := hid (below_step GB.out b)
      clear b
      refine hK.out _ _ (fun _ => KB.out _ GB.out) ?_
      clear hK
      refine wpAnyT_one (i := 4) (o := { dst := some 92, op := Op.unOp UnOp.not 4 (Operand.tmp 91), type := 4, pos := "plain.go:92", after := #[{ on := 3, ground := Ground.data }], guard := none }) (by kernel_rfl) rfl (fun K hK => ?_)
      go_simp
      refine hK.out _ _ (fun h => absurd h (by decide)) ?_
      clear hK
      try simp only [Act.put]
      refine wpAnyT_done (by kernel_rfl) ?_ _
      replace PN1 := hid (PN1.out.step GB.out)
      replace PG1 := hid (PG1.out.step GB.out)
      replace ZG1 := hid (ZG1.out.now GB.out)
      replace GA := hid (GA.out.now GB.out)
      replace GT := hid (below_step GT.out GB.out)
      replace HSB0 := hid (Nat.le_trans HSB0.out (show Below _ _ _ from GB.out).size)
      clear GB KB g0 g1 HGL ZB
      have n0 := PN1.out.c0
      have n1 := PN1.out.c1
      obtain ⟨V9, hV⟩ : ∃ V9, w43.alloc (duo (.bool nn) (.slice adn xn.length cn)) = V9 := ⟨_, rfl⟩
      obtain ⟨b, sz5⟩ := alo1 w43 (duo (.bool nn) (.slice adn xn.length cn))
      rw [hV] at b sz5
      have hc6 : Hid (Duo V9 w43.heap.size (.bool nn) (.slice adn xn.length cn)) := by unfold Hid; rw [← hV]; exact Duo.new w43 _ _
      replace PN1 := hid (PN1.out.step b)
      replace PG1 := hid (PG1.out.step b)
      replace ZG1 := hid (ZG1.out.now b)
      replace GA := hid (GA.out.now b)
      replace GT := hid (below_step GT.out b)
      have HSB : Hid (w6.heap.size + 1 ≤ V9.heap.size) := by have h1 := HSB0.out; have h2 := sz5; unfold Hid; omega
      have HB1 : Hid (w.heap.size < w6.heap.size + 1 ∧ w2.heap.size < w6.heap.size + 1) := HBX.out
      have EV := hid hV
      clear b sz5 hV
      obtain ⟨zs, hzs⟩ : ∃ zs, L.reverse = zs := ⟨_, rfl⟩
      have HMO : Hid (gcdL (zs ++ [N]) = (Int.gcd (gcdL L) N : Int)) := by unfold Hid; rw [← hzs]; exact gcdL_more L N
      rw [hzs] at GA HLR
      have HLZ : Hid ((zs ++ [N]).length ≤ 1048576) := by unfold Hid; rw [List.length_append, ← hzs, List.length_reverse]; exact HL1.out
      clear hzs
      go_wp2_with (at_builtin; rw [EV.out]; refine wpList_append_e _ rfl (.tmp 93) (.tmp 95) rfl w (w6.heap.size + 1) 1048576 _ _ _ zs N rfl GA.out w43.heap.size rfl hc6.out.c0 hc6.out.c1 (.inl ZN.out) HLR.out HSB.out ?_)
      intro a12 cap12 w12 hga hty hbw hbl hob
      have GA2 := hid hga.out
      have GT2 : Hid (Below w.heap.size w w12) := GT.out.trans (hbw.out.mono (by have := HB1.out.1; omega))
      have PN2 := hid (PN1.out.below hbw.out HB1.out.1)
      have PG2 := hid (PG1.out.below hbw.out HB1.out.2)
      have ZG2 := hid (ZG1.out.ty hty.out (by decide))
      have ZN2 := hid (ZN.out.now GT2.out)
      clear hga hty hbw hbl hob GA GT PN1 PG1 ZG1 EV hc6 n0 n1 HSB HB1
      have g0 := PG2.out.c0
      have g1 := PG2.out.c1
      have n0 := PN2.out.c0
      have n1 := PN2.out.c1
      have HGL : Hid (∀ w', Below w12.heap.size w12 w' → Calls Try.prog 7 #[.slice a12 (zs.length + 1) cap12] w' fun e w'' => ∃ r, e = .returned r ∧ Zm 0 w'' r (Int.gcd (gcdL L) N : Int) 1048576 ∧ Below w'.heap.size w' w'') := fun w' b => by
        have q := gcdAll6 ((GA2.out.zl HLZ.out GT2.out).now b) (by decide)
        rw [HMO.out] at q
        exact q
      go_wp2_with fail
      have KB : Hid (∀ w', Below w12.heap.size w12 w' → w'.cell? ⟨w2.heap.size, 0, none⟩ = some (.bool ng) ∧ w'.cell? ⟨w2.heap.size, 1, none⟩ = some (.slice ag xg.length cg) ∧ w'.cell? ⟨w.heap.size, 0, none⟩ = some (.bool nn) ∧ w'.cell? ⟨w.heap.size, 1, none⟩ = some (.slice adn xn.length cn)) := fun w' h => ⟨cnow h g0, cnow h g1, cnow h n0, cnow h n1⟩
      refine wp_region_tail (fun w' => w'.cell? ⟨w2.heap.size, 0, none⟩ = some (.bool ng) ∧ w'.cell? ⟨w2.heap.size, 1, none⟩ = some (.slice ag xg.length cg) ∧ w'.cell? ⟨w.heap.size, 0, none⟩ = some (.bool nn) ∧ w'.cell? ⟨w.heap.size, 1, none⟩ = some (.slice adn xn.length cn)) 6 (by kernel_rfl) ?_
      obtain ⟨D51, hD⟩ : ∃ D51, w12.drew = D51 := ⟨_, rfl⟩
      have GB : Hid (Below w12.heap.size w12 D51) := by unfold Hid; rw [← hD]; exact (Below.refl _ _).drew
      rw [hD]
      clear hD
      refine wpAnyT_take (i := 0) (oi := { dst := some 97, op := Op.move (Operand.tmp 9), type := 22, pos := "plain.go:96", after := #[], guard := none }) (v := (.slice a12 (zs.length + 1) cap12)) rfl (by kernel_rfl) (fun _ _ _ h => h) (Or.inl ⟨by rfl, ?_⟩) (KB.out _ GB.out) ?_
      · intro w hSw
        (try dsimp only at hSw)
        go_simp
      simp only [Act.put, List.setIfInBounds_toArray, List.set_cons_zero, List.set_cons_succ]
      refine wpAnyT_take (i := 2) (oi := { dst := some 99, op := Op.load 25 (Operand.tmp 5), type := 25, pos := "plain.go:96", after := #[], guard := none }) (v := (.agg #[.bool ng, .slice ag xg.length cg])) rfl (by kernel_rfl) (fun _ _ _ h => h) (Or.inl ⟨by rfl, ?_⟩) (KB.out _ GB.out) ?_
      · intro w hSw
        (try dsimp only at hSw)
        go_simp
      simp only [Act.put, List.setIfInBounds_toArray, List.set_cons_zero, List.set_cons_succ]
      refine wpAnyT_take (i := 3) (oi := { dst := some 100, op := Op.load 25 (Operand.tmp 3), type := 25, pos := "plain.go:96", after := #[], guard := none }) (v := (.agg #[.bool nn, .slice adn xn.length cn])) rfl (by kernel_rfl) (fun _ _ _ h => h) (Or.inl ⟨by rfl, ?_⟩) (KB.out _ GB.out) ?_
      · intro w hSw
        (try dsimp only at hSw)
        go_simp
      simp only [Act.put, List.setIfInBounds_toArray, List.set_cons_zero, List.set_cons_succ]
      refine wpAnyT_one (i := 1) (o := { dst := some 98, op := Op.call { callee := Callee.value (Operand.func 7), args := #[Operand.tmp 97], argTypes := #[22] }, type := 25, pos := "plain.go:96", after := #[{ on := 0, ground := Ground.data }], guard := none }) (by kernel_rfl) rfl (fun K hK => ?_)
      go_simp
      go_at_call 7
      refine (HGL.out _ GB.out).mono ?_
      rintro e w52 ⟨r, rfl, m1, b⟩
      have lz52 := (show Below _ _ _ from b).size
      replace GB := hid (below_step GB.out b)
      have ZB := hid m1
      obtain ⟨nb, xb, ab, cb, rfl⟩ := m1.parts
      clear m1
      clear b
      refine hK.out _ _ (fun _ => KB.out _ GB.out) ?_
      clear hK
      refine wpAnyT_one (i := 4) (o := { dst := some 101, op := Op.call { callee := Callee.value (Operand.func 14), args := #[Operand.tmp 99, Operand.tmp 100], argTypes := #[25, 25] }, type := 25, pos := "plain.go:96", after := #[{ on := 2, ground := Ground.data }, { on := 3, ground := Ground.data }, { on := 1, ground := Ground.chain }], guard := none }) (by kernel_rfl) rfl (fun K hK => ?_)
      go_simp
      go_at_call 14
      refine (gcd_z ((ZG2.out.now GB.out).zi.more HK1.out) (ZN2.out.now GB.out) (by decide)).mono ?_
      rintro e w53 ⟨r, rfl, m2, b⟩
      have lz53 := (show Below _ _ _ from b).size
      replace GB := hid (below_step GB.out b)
      have ZQ := hid m2
      replace ZB := hid (ZB.out.now b)
      obtain ⟨nq, xq, aq, cq, rfl⟩ := m2.parts
      clear m2
      clear b
      refine hK.out _ _ (fun _ => KB.out _ GB.out) ?_
      clear hK
      refine wpAnyT_one (i := 5) (o := { dst := some 102, op := Op.call { callee := Callee.value (Operand.func 9), args := #[Operand.tmp 98, Operand.tmp 101], argTypes := #[25, 25] }, type := 4, pos := "plain.go:96", after := #[{ on := 1, ground := Ground.data }, { on := 4, ground := Ground.data }, { on := 4, ground := Ground.chain }], guard := none }) (by kernel_rfl) rfl (fun K hK => ?_)
      go_simp
      go_at_call 9
      refine (alike6_yes ZB.out.zc ZQ.out.zc rfl).mono ?_
      rintro e w54 ⟨rfl, b⟩
      have lz54 := (show Below _ _ _ from b).size
      replace GB := hid (below_step GB.out b)
      clear b
      refine hK.out _ _ (fun _ => KB.out _ GB.out) ?_
      clear hK
      refine wpAnyT_one (i := 6) (o := { dst := some 4, op := Op.assign (Operand.tmp 102), type := 4, pos := "plain.go:96", after := #[{ on := 5, ground := Ground.data }, { on := 5, ground := Ground.chain }, { on := 0, ground := Ground.phase }, { on := 1, ground := Ground.phase }, { on := 2, ground := Ground.phase }, { on := 3, ground := Ground.phase }, { on := 4, ground := Ground.phase }, { on := 5, ground := Ground.phase }], guard := none }) (by kernel_rfl) rfl (fun K hK => ?_)
      go_simp
      refine hK.out _ _ (fun h => absurd h (by decide)) ?_
      clear hK
      try simp only [Act.put]
      refine wpAnyT_done (by kernel_rfl) ?_ _
      have GE := hid (below_step GT2.out GB.out)
      clear GB KB HGL ZB ZQ
      go_wp2
      go_ret
      exact ⟨rfl, GE.out⟩
end Go.Proofs.Ytkikiddoiigbjaa
