/-
  Cs13: the walk of BareissCores.
-/
import Derived.Test.YtlhbcdapinacgaaGreatQWk13ToRf13
import Derived.Test.YtlhbcdapinacgaaGreatQCr13ToRs13
import Derived.Test.YtlhbcdapinacgaaGreatQUq13ToSl13
import Derived.Test.YtlhbcdapinacgaaGreatQCo13
import Derived.Deep.CutRange
namespace Go.Proofs.YtlhbcdapinacgaaGreat
open Go.RowKit
set_option linter.unusedVariables false

set_option maxHeartbeats 6400000 in
set_option maxRecDepth 100000 in
theorem bareissCores_any {w : World} {va : Value} {ra ca : Int} {la : Nat} {xs : List Int} {row col : Int} (ha : Raw w va ra ca la xs) :
    Calls Tryz.prog 5 #[va, .int .i64 row, .int .i64 col] w (Tru w) := by
  have RA := hid ha
  obtain ⟨aa, qa, -, rfl, -, -, -, hla⟩ := ha
  obtain ⟨W0, hV⟩ : ∃ W0, w.alloc (.cells #[.int .i64 ra, .int .i64 ca, .slice aa la qa] 24) = W0 := ⟨_, rfl⟩
  obtain ⟨b0, sz0⟩ := alo1 w (.cells #[.int .i64 ra, .int .i64 ca, .slice aa la qa] 24)
  rw [hV] at b0 sz0
  have PA : Hid (Cel W0 w.heap.size 24 [.int .i64 ra, .int .i64 ca, .slice aa la qa]) := by unfold Hid; rw [← hV]; exact Cel.new w _ _
  replace RA := hid (RA.out.now b0)
  have G := hid b0
  have HW0 : Hid (w.heap.size ≤ W0.heap.size) := b0.size
  clear b0 sz0
  have EV := hid hV
  clear hV
  go_enter Tryz.func5, Tryz.ntmps5
  go_wp2_with fail
  rw [EV.out]
  clear EV
  by_cases hsa : Snd ra ca la
  · obtain ⟨r, c, rfl, rfl⟩ := snd13 hsa
    obtain ⟨ma, -⟩ := RA.out.mx13 hsa
    have MA := hid ma
    clear ma hsa
    have M0 := MA
    have P0 := PA
    clear RA
    have hr64 : r ≤ 64 := by obtain ⟨_, _, _, _, _, _, h, _⟩ := MA.out; exact h
    have hc64 : c ≤ 64 := by obtain ⟨_, _, _, _, _, _, _, h⟩ := MA.out; exact h
    refine (core_yes MA.out (by decide)).mono ?_
    rintro e w1 ⟨rs, cs, odd, rv, cv, nd, ad, ld, cd, rfl, hz, i1, i2, m, hne, b⟩
    replace PA := hid (PA.out.step b)
    replace MA := hid (MA.out.now b)
    replace G := hid (below_step G.out b)
    have G0 : Hid (Bel W0 w1) := b
    have HZ := hid hz
    have Zd := hid (m.mono (Nat.zero_le _))
    have HRL : Hid (rs.length ≤ 64) := Nat.le_trans hz.le hr64
    have HSL : Hid ((srt cs).length = rs.length) := by unfold Hid; rw [hz.srt.2.1, hz.len]
    have HUR : Hid (rs.Pairwise (· < ·)) := hz.up
    have HUC : Hid ((srt cs).Pairwise (· < ·)) := hz.srt.1
    have HBR : Hid (∀ i ∈ rs, i < r) := hz.lt
    have HBC : Hid (∀ j ∈ srt cs, j < c) := fun j hj => hz.cl j ((hz.srt.2.2 j).1 hj)
    have HDN := hid hz.dne
    obtain ⟨dA, hdA⟩ : ∃ dA, detS (en c xs) rs cs odd = dA := ⟨_, rfl⟩
    rw [hdA] at Zd HDN
    have EDA := hid hdA
    obtain ⟨rl, hrl⟩ : ∃ rl, rs.length = rl := ⟨_, rfl⟩
    have ERL := hid hrl
    rw [hrl] at HRL HSL
    obtain ⟨sc, hsc⟩ : ∃ sc, srt cs = sc := ⟨_, rfl⟩
    have ESC := hid hsc
    rw [hsc] at HSL HUC HBC i2
    obtain ⟨ar, capr, rfl, -, -⟩ := i1.form
    obtain ⟨ac, capc, rfl, -, -⟩ := i2.form
    rw [hrl] at i1 hne ⊢
    rw [HSL.out] at i2 hne ⊢
    have IR := hid i1
    have IC := hid i2
    have HNE := hid hne
    have HRI : rl ≤ 64 := HRL.out
    clear hz i1 i2 m hne hdA hrl hsc
    clear b
    obtain ⟨V2, hV⟩ : ∃ V2, w1.alloc (duo (.bool nd) (.slice ad ld cd)) = V2 := ⟨_, rfl⟩
    obtain ⟨b, sz2⟩ := alo1 w1 (duo (.bool nd) (.slice ad ld cd))
    rw [hV] at b sz2
    replace PA := hid (PA.out.step b)
    replace MA := hid (MA.out.now b)
    replace G0 := hid (G0.out.on13 b)
    replace IR := hid (IR.out.now b)
    replace IC := hid (IC.out.now b)
    replace Zd := hid (Zd.out.now b)
    replace G := hid (below_step G.out b)
    clear b sz2
    have Dd : Hid (Duo V2 w1.heap.size (.bool nd) (.slice ad ld cd)) := by unfold Hid; rw [← hV]; exact Duo.new w1 _ _
    have cA0 := PA.out.at (i := 0) rfl
    have cA1 := PA.out.at (i := 1) rfl
    have cA2 := PA.out.at (i := 2) rfl
    rw [← hV] at cA0 cA1 cA2
    have EV : Hid (w1.alloc (duo (.bool nd) (.slice ad ld cd)) = V2) := hV
    clear hV
    go_wp2_with fail
    rw [EV.out]
    clear EV
    clear cA0 cA1 cA2
    refine (rank_yes MA.out (by decide)).mono ?_
    rintro e w3 ⟨rs2, cs2, odd2, hz2, rfl, b⟩
    replace PA := hid (PA.out.step b)
    replace MA := hid (MA.out.now b)
    replace G0 := hid (G0.out.on13 b)
    replace IR := hid (IR.out.now b)
    replace IC := hid (IC.out.now b)
    replace Zd := hid (Zd.out.now b)
    replace Dd := hid (Dd.out.step b)
    replace G := hid (below_step G.out b)
    have e2 : rs2.length = rl := by rw [(hz2.unique HZ.out).1]; exact ERL.out
    rw [e2]
    clear hz2 e2
    clear b
    go_wp2_with fail
    refine (awake13 _).mono ?_
    rintro e w4 ⟨rfl, b⟩
    replace PA := hid (PA.out.step b)
    replace MA := hid (MA.out.now b)
    replace G0 := hid (G0.out.on13 b)
    replace IR := hid (IR.out.now b)
    replace IC := hid (IC.out.now b)
    replace Zd := hid (Zd.out.now b)
    replace Dd := hid (Dd.out.step b)
    replace G := hid (below_step G.out b)
    clear b
    have cA0 := PA.out.at (i := 0) rfl
    have cA1 := PA.out.at (i := 1) rfl
    have cA2 := PA.out.at (i := 2) rfl
    go_wp2_with fail
    clear cA0 cA1 cA2
    refine (check_yes MA.out).mono ?_
    rintro e w5 ⟨rfl, b⟩
    replace PA := hid (PA.out.step b)
    replace MA := hid (MA.out.now b)
    replace G0 := hid (G0.out.on13 b)
    replace IR := hid (IR.out.now b)
    replace IC := hid (IC.out.now b)
    replace Zd := hid (Zd.out.now b)
    replace Dd := hid (Dd.out.step b)
    replace G := hid (below_step G.out b)
    clear b
    have cA0 := PA.out.at (i := 0) rfl
    have cA1 := PA.out.at (i := 1) rfl
    have cA2 := PA.out.at (i := 2) rfl
    go_wp2_with fail
    clear cA0 cA1 cA2
    refine (rising13 IR.out HUR.out HBR.out (by rw [ERL.out]; exact HRL.out)).mono ?_
    rintro e w6 ⟨rfl, b⟩
    replace PA := hid (PA.out.step b)
    replace MA := hid (MA.out.now b)
    replace G0 := hid (G0.out.on13 b)
    replace IR := hid (IR.out.now b)
    replace IC := hid (IC.out.now b)
    replace Zd := hid (Zd.out.now b)
    replace Dd := hid (Dd.out.step b)
    replace G := hid (below_step G.out b)
    clear b
    have cA0 := PA.out.at (i := 0) rfl
    have cA1 := PA.out.at (i := 1) rfl
    have cA2 := PA.out.at (i := 2) rfl
    go_wp2_with fail
    clear cA0 cA1 cA2
    refine (rising13 IC.out HUC.out HBC.out (by rw [HSL.out]; exact HRL.out)).mono ?_
    rintro e w7 ⟨rfl, b⟩
    replace PA := hid (PA.out.step b)
    replace MA := hid (MA.out.now b)
    replace G0 := hid (G0.out.on13 b)
    replace IR := hid (IR.out.now b)
    replace IC := hid (IC.out.now b)
    replace Zd := hid (Zd.out.now b)
    replace Dd := hid (Dd.out.step b)
    replace G := hid (below_step G.out b)
    clear b
    have cA0 := PA.out.at (i := 0) rfl
    have cA1 := PA.out.at (i := 1) rfl
    have cA2 := PA.out.at (i := 2) rfl
    go_wp2_with fail
    clear cA0 cA1 cA2
    refine (pick_yes MA.out (IR.out.in9 (by rw [ERL.out]; omega)) (IC.out.in9 (by rw [HSL.out]; omega)) HBR.out HBC.out (by rw [ERL.out]; exact HRL.out) (by rw [HSL.out]; exact HRL.out)).mono ?_
    rintro e w8 ⟨vp, rfl, mp, b⟩
    replace PA := hid (PA.out.step b)
    replace MA := hid (MA.out.now b)
    replace G0 := hid (G0.out.on13 b)
    replace IR := hid (IR.out.now b)
    replace IC := hid (IC.out.now b)
    replace Zd := hid (Zd.out.now b)
    replace Dd := hid (Dd.out.step b)
    replace G := hid (below_step G.out b)
    rw [ERL.out, HSL.out] at mp
    obtain ⟨ap, qp, hvp, -, -⟩ := mp.mx.form
    obtain ⟨lp, hlp⟩ : ∃ lp, rl * rl = lp := ⟨_, rfl⟩
    rw [hlp] at hvp
    subst hvp
    have MP := hid mp.mx
    clear mp hlp
    clear b
    obtain ⟨V9, hV⟩ : ∃ V9, w8.alloc (.cells #[.int .i64 ((rl : Int)), .int .i64 ((rl : Int)), .slice ap lp qp] 24) = V9 := ⟨_, rfl⟩
    obtain ⟨b, sz9⟩ := alo1 w8 (.cells #[.int .i64 ((rl : Int)), .int .i64 ((rl : Int)), .slice ap lp qp] 24)
    rw [hV] at b sz9
    replace PA := hid (PA.out.step b)
    replace MA := hid (MA.out.now b)
    replace G0 := hid (G0.out.on13 b)
    replace IR := hid (IR.out.now b)
    replace IC := hid (IC.out.now b)
    replace Zd := hid (Zd.out.now b)
    replace Dd := hid (Dd.out.step b)
    replace MP := hid (MP.out.now b)
    replace G := hid (below_step G.out b)
    clear b sz9
    have PB : Hid (Cel V9 w8.heap.size 24 [.int .i64 ((rl : Int)), .int .i64 ((rl : Int)), .slice ap lp qp]) := by unfold Hid; rw [← hV]; exact Cel.new w8 _ _
    have cB0 := PB.out.at (i := 0) rfl
    have cB1 := PB.out.at (i := 1) rfl
    have cB2 := PB.out.at (i := 2) rfl
    rw [← hV] at cB0 cB1 cB2
    have EV : Hid (w8.alloc (.cells #[.int .i64 ((rl : Int)), .int .i64 ((rl : Int)), .slice ap lp qp] 24) = V9) := hV
    clear hV
    go_wp2_with fail
    rw [EV.out]
    clear EV
    clear cB0 cB1 cB2
    refine (ldet_sq MP.out (by decide)).mono ?_
    rintro e w10 ⟨ne, ae, le, ce, rfl, m, b⟩
    replace PA := hid (PA.out.step b)
    replace MA := hid (MA.out.now b)
    replace G0 := hid (G0.out.on13 b)
    replace IR := hid (IR.out.now b)
    replace IC := hid (IC.out.now b)
    replace Zd := hid (Zd.out.now b)
    replace Dd := hid (Dd.out.step b)
    replace MP := hid (MP.out.now b)
    replace PB := hid (PB.out.step b)
    replace G := hid (below_step G.out b)
    have e3 : det rl (en rl (pickL r c xs rs sc)) = dA := by rw [← ESC.out, core_det13 HZ.out ERL.out]; exact EDA.out
    rw [e3] at m
    have Ze := hid (m.mono (Nat.zero_le _))
    clear m e3
    clear b
    have LZB : Hid (w.heap.size ≤ w10.heap.size) := G.out.size
    obtain ⟨V11, hV⟩ : ∃ V11, w10.alloc (duo (.bool ne) (.slice ae le ce)) = V11 := ⟨_, rfl⟩
    obtain ⟨b, sz11⟩ := alo1 w10 (duo (.bool ne) (.slice ae le ce))
    rw [hV] at b sz11
    replace PA := hid (PA.out.step b)
    replace MA := hid (MA.out.now b)
    replace G0 := hid (G0.out.on13 b)
    replace IR := hid (IR.out.now b)
    replace IC := hid (IC.out.now b)
    replace Zd := hid (Zd.out.now b)
    replace Dd := hid (Dd.out.step b)
    replace MP := hid (MP.out.now b)
    replace PB := hid (PB.out.step b)
    replace Ze := hid (Ze.out.now b)
    replace G := hid (below_step G.out b)
    clear b sz11
    have De : Hid (Duo V11 w10.heap.size (.bool ne) (.slice ae le ce)) := by unfold Hid; rw [← hV]; exact Duo.new w10 _ _
    clear MP
    clear PB
    have cd0 := Dd.out.c0
    have cd1 := Dd.out.c1
    have ce0 := De.out.c0
    have ce1 := De.out.c1
    rw [← hV] at cd0 cd1 ce0 ce1
    have EV : Hid (w10.alloc (duo (.bool ne) (.slice ae le ce)) = V11) := hV
    clear hV
    go_wp2_with fail
    rw [EV.out]
    clear EV
    clear cd0 cd1 ce0 ce1
    refine (cmp_z Ze.out.zi Zd.out.zi).mono ?_
    rintro e w12 ⟨rfl, b⟩
    replace PA := hid (PA.out.step b)
    replace MA := hid (MA.out.now b)
    replace G0 := hid (G0.out.on13 b)
    replace IR := hid (IR.out.now b)
    replace IC := hid (IC.out.now b)
    replace Zd := hid (Zd.out.now b)
    replace Dd := hid (Dd.out.step b)
    replace Ze := hid (Ze.out.now b)
    replace De := hid (De.out.step b)
    replace G := hid (below_step G.out b)
    rw [cmpI_self]
    clear b
    have cd0 := Dd.out.c0
    have cd1 := Dd.out.c1
    go_wp2_with fail
    clear cd0 cd1
    refine (sign_z Zd.out.zi).mono ?_
    rintro e w13 ⟨rfl, b⟩
    replace PA := hid (PA.out.step b)
    replace MA := hid (MA.out.now b)
    replace G0 := hid (G0.out.on13 b)
    replace IR := hid (IR.out.now b)
    replace IC := hid (IC.out.now b)
    replace Zd := hid (Zd.out.now b)
    replace Dd := hid (Dd.out.step b)
    replace Ze := hid (Ze.out.now b)
    replace De := hid (De.out.step b)
    replace G := hid (below_step G.out b)
    have hq : (cmpI dA 0 == 0) = false := by
      have := cmpI_ne HDN.out
      simpa using this
    obtain ⟨cq, hcq⟩ : ∃ cq, cmpI dA 0 = cq := ⟨_, rfl⟩
    rw [hcq] at hq ⊢
    clear hcq
    clear b
    clear Zd
    clear Dd
    clear Ze
    go_upto_region 13 with fail
    clear hq
    by_cases hx : row < 0
    · have cA0 := PA.out.at (i := 0) rfl
      have cA1 := PA.out.at (i := 1) rfl
      go_wp2
      go_ret
      exact ⟨rfl, G.out⟩
    obtain ⟨i, rfl⟩ : ∃ i : Nat, row = (i : Int) := ⟨row.toNat, by omega⟩
    have hx1 : ¬ (i : Int) < 0 := hx
    clear hx
    by_cases hx : (r : Int) ≤ (i : Int)
    · have cA0 := PA.out.at (i := 0) rfl
      have cA1 := PA.out.at (i := 1) rfl
      go_wp2
      go_ret
      exact ⟨rfl, G.out⟩
    have hx2 : ¬ (r : Int) ≤ (i : Int) := hx
    clear hx
    by_cases hx : col < 0
    · have cA0 := PA.out.at (i := 0) rfl
      have cA1 := PA.out.at (i := 1) rfl
      go_wp2
      go_ret
      exact ⟨rfl, G.out⟩
    obtain ⟨j, rfl⟩ : ∃ j : Nat, col = (j : Int) := ⟨col.toNat, by omega⟩
    have hx3 : ¬ (j : Int) < 0 := hx
    clear hx
    by_cases hx : (c : Int) ≤ (j : Int)
    · have cA0 := PA.out.at (i := 0) rfl
      have cA1 := PA.out.at (i := 1) rfl
      go_wp2
      go_ret
      exact ⟨rfl, G.out⟩
    have hx4 : ¬ (c : Int) ≤ (j : Int) := hx
    clear hx
    by_cases hx : (64 : Int) ≤ (rl : Int)
    · have cA0 := PA.out.at (i := 0) rfl
      have cA1 := PA.out.at (i := 1) rfl
      go_wp2
      go_ret
      exact ⟨rfl, G.out⟩
    have hx5 : ¬ (64 : Int) ≤ (rl : Int) := hx
    clear hx
    have cA0 := PA.out.at (i := 0) rfl
    have cA1 := PA.out.at (i := 1) rfl
    go_upto_region 15 with fail
    clear cA0 cA1
    obtain ⟨kk, hkk⟩ : ∃ kk, rl + 1 = kk := ⟨_, rfl⟩
    have EKK := hid hkk
    have HIR : Hid (i < r) := by unfold Hid; omega
    have HJC : Hid (j < c) := by unfold Hid; omega
    have HKI : kk ≤ 64 := by omega
    have RW : Hid (R15 w W0 w13 w13 (.slice ar rl capr) (.slice ac rl capc) rs sc) := ⟨Ty.of (Below.refl _ _), G0.out, G.out, IR.out, IC.out, HNE.out⟩
    have HVR : Hid (∀ b, (Value.slice ar rl capr).ownBlock = some b → b < w13.heap.size) := fun b hb => IR.out.lt13 hb
    have HWW : Hid (w.heap.size ≤ w13.heap.size) := G.out.size
    have HW2 : Hid (W0.heap.size ≤ w13.heap.size) := Below.size G0.out
    have HL1 : Hid ((rs ++ [i]).length = kk) := by unfold Hid; rw [List.length_append, ERL.out]; exact hkk
    have HL2 : Hid ((sc ++ [j]).length = kk) := by unfold Hid; rw [List.length_append, HSL.out]; exact hkk
    have HB1 : Hid (∀ x ∈ rs ++ [i], x < r) := fun x hx => by
      rcases List.mem_append.1 hx with q | q
      · exact HBR.out x q
      · simp at q; have := HIR.out; omega
    have HB2 : Hid (∀ x ∈ sc ++ [j], x < c) := fun x hx => by
      rcases List.mem_append.1 hx with q | q
      · exact HBC.out x q
      · simp at q; have := HJC.out; omega
    have HLR : Hid (rs.length ≤ 1000000) := by unfold Hid; rw [ERL.out]; omega
    have HLC : Hid (sc.length ≤ 1000000) := by unfold Hid; rw [HSL.out]; omega
    clear hkk
    go_cut [16, 10] from 142 (fun s1 s2 wx => PkN w w13 wx s1 s2 kk (pickL r c xs (rs ++ [i]) (sc ++ [j])))
    case first =>
      have cA0 := PA.out.at (i := 0) rfl
      have cA1 := PA.out.at (i := 1) rfl
      have cA2 := PA.out.at (i := 2) rfl
      have KX : Hid (∀ X, Below W0.heap.size W0 X → X.cell? ⟨w.heap.size, 0, none⟩ = some (.int .i64 (r : Int)) ∧ X.cell? ⟨w.heap.size, 1, none⟩ = some (.int .i64 (c : Int)) ∧ X.cell? ⟨w.heap.size, 2, none⟩ = some (.slice aa la qa)) := fun X h => ⟨(P0.out.step h).at (i := 0) rfl, (P0.out.step h).at (i := 1) rfl, (P0.out.step h).at (i := 2) rfl⟩
      have KB : Hid (∀ w', Below w13.heap.size w13 w' → w'.cell? ⟨w.heap.size, 0, none⟩ = some (.int .i64 (r : Int)) ∧ w'.cell? ⟨w.heap.size, 1, none⟩ = some (.int .i64 (c : Int)) ∧ w'.cell? ⟨w.heap.size, 2, none⟩ = some (.slice aa la qa)) := fun w' h => ⟨cnow h cA0, cnow h cA1, cnow h cA2⟩
      refine wp_region_tail (fun w' => w'.cell? ⟨w.heap.size, 0, none⟩ = some (.int .i64 (r : Int)) ∧ w'.cell? ⟨w.heap.size, 1, none⟩ = some (.int .i64 (c : Int)) ∧ w'.cell? ⟨w.heap.size, 2, none⟩ = some (.slice aa la qa)) 15 (by kernel_rfl) ?_
      obtain ⟨D81, hD⟩ : ∃ D81, w13.drew = D81 := ⟨_, rfl⟩
      have GB : Hid (Below w13.heap.size w13 D81) := by unfold Hid; rw [← hD]; exact (Below.refl _ _).drew
      rw [hD]
      clear hD
      have RR := hid (RW.out.now GB.out)
      refine wpAnyT_take (i := 0) (oi := { dst := some 143, op := Op.load 24 (Operand.tmp 3), type := 24, pos := "outright.go:124", after := #[], guard := none }) (v := (.agg #[.int .i64 (r : Int), .int .i64 (c : Int), .slice aa la qa])) rfl (by kernel_rfl) (fun _ _ _ h => h) (Or.inl ⟨by rfl, ?_⟩) (KX.out _ RR.out.b0) ?_
      · intro w hSw
        (try dsimp only at hSw)
        go_simp
      simp only [Act.put, List.setIfInBounds_toArray, List.set_cons_zero, List.set_cons_succ]
      refine wpAnyT_take (i := 1) (oi := { dst := some 144, op := Op.move (Operand.tmp 7), type := 38, pos := "outright.go:124", after := #[], guard := none }) (v := (.slice ar rl capr)) rfl (by kernel_rfl) (fun _ _ _ h => h) (Or.inl ⟨by rfl, ?_⟩) (KX.out _ RR.out.b0) ?_
      · intro w hSw
        (try dsimp only at hSw)
        go_simp
      simp only [Act.put, List.setIfInBounds_toArray, List.set_cons_zero, List.set_cons_succ]
      refine wpAnyT_take (i := 2) (oi := { dst := some 145, op := Op.move (Operand.tmp 1), type := 3, pos := "outright.go:124", after := #[], guard := none }) (v := (.int .i64 (i : Int))) rfl (by kernel_rfl) (fun _ _ _ h => h) (Or.inl ⟨by rfl, ?_⟩) (KX.out _ RR.out.b0) ?_
      · intro w hSw
        (try dsimp only at hSw)
        go_simp
      simp only [Act.put, List.setIfInBounds_toArray, List.set_cons_zero, List.set_cons_succ]
      refine wpAnyT_take (i := 5) (oi := { dst := some 148, op := Op.move (Operand.tmp 8), type := 38, pos := "outright.go:124", after := #[], guard := none }) (v := (.slice ac rl capc)) rfl (by kernel_rfl) (fun _ _ _ h => h) (Or.inl ⟨by rfl, ?_⟩) (KX.out _ RR.out.b0) ?_
      · intro w hSw
        (try dsimp only at hSw)
        go_simp
      simp only [Act.put, List.setIfInBounds_toArray, List.set_cons_zero, List.set_cons_succ]
      refine wpAnyT_take (i := 6) (oi := { dst := some 149, op := Op.move (Operand.tmp 2), type := 3, pos := "outright.go:124", after := #[], guard := none }) (v := (.int .i64 (j : Int))) rfl (by kernel_rfl) (fun _ _ _ h => h) (Or.inl ⟨by rfl, ?_⟩) (KX.out _ RR.out.b0) ?_
      · intro w hSw
        (try dsimp only at hSw)
        go_simp
      simp only [Act.put, List.setIfInBounds_toArray, List.set_cons_zero, List.set_cons_succ]
      refine wpAnyT_three (i := 3) (j := 7) (l := 13) (oi := { dst := some 146, op := Op.buildSlice 38 1 #[(0, Operand.tmp 145)], type := 38, pos := "outright.go:124", after := #[{ on := 2, ground := Ground.data }], guard := none }) (oj := { dst := some 150, op := Op.buildSlice 38 1 #[(0, Operand.tmp 149)], type := 38, pos := "outright.go:124", after := #[{ on := 6, ground := Ground.data }], guard := none }) (ol := { dst := some 16, op := Op.alloc 24, type := 0, pos := "outright.go:124", after := #[], guard := none }) (by kernel_rfl) rfl rfl rfl (fun K hK => ?_) (fun K hK => ?_) (fun K hK => ?_)
      · skip
        go_simp
        have SC3 : Hid (w13.heap.size ≤ D81.heap.size) := RR.out.ty.1
        obtain ⟨V82, hW⟩ : ∃ V82, D81.alloc (.cells #[.int .i64 (i : Int)] 3) = V82 := ⟨_, rfl⟩
        obtain ⟨b, sz82⟩ := alo1 D81 (.cells #[.int .i64 (i : Int)] 3)
        rw [hW] at b sz82
        have C3 : Hid (V82.cell? ⟨D81.heap.size, 0, none⟩ = some (.int .i64 (i : Int))) := by unfold Hid; rw [← hW]; exact (Cel.new D81 3 [.int .i64 (i : Int)]).at (i := 0) rfl
        replace GB := hid (below_step GB.out b)
        replace RR := hid (RR.out.now b)
        rw [hW]
        clear hW b sz82
        refine hK.out _ _ (fun _ => KX.out _ RR.out.b0) ?_
        clear hK
        try simp only [Act.put]
        refine wpAnyT_three (i := 4) (j := 7) (l := 13) (oi := { dst := some 147, op := Op.call { callee := Callee.builtin Builtin.append, args := #[Operand.tmp 144, Operand.tmp 146], argTypes := #[38, 38] }, type := 38, pos := "outright.go:124", after := #[{ on := 1, ground := Ground.data }, { on := 3, ground := Ground.data }], guard := none }) (oj := { dst := some 150, op := Op.buildSlice 38 1 #[(0, Operand.tmp 149)], type := 38, pos := "outright.go:124", after := #[{ on := 6, ground := Ground.data }], guard := none }) (ol := { dst := some 16, op := Op.alloc 24, type := 0, pos := "outright.go:124", after := #[], guard := none }) (by kernel_rfl) rfl rfl rfl (fun K hK => ?_) (fun K hK => ?_) (fun K hK => ?_)
        · skip
          refine step_append_ivs V82 rfl (.tmp 144) (.tmp 146) rfl W0.heap.size (.slice ar rl capr) rs i rfl RR.out.r D81.heap.size rfl C3.out HLR.out RR.out.b0.size ?_
          intro g1 l1 cap1 w83 hl1 hI hg hb
          replace RR := hid (RR.out.addR HW0.out hI.out hg.out hb.out)
          replace GB := hid (Below.refl w83.heap.size w83)
          clear hI hg hb C3 hl1
          refine hK.out _ _ (fun _ => KX.out _ RR.out.b0) ?_
          clear hK
          refine wpAnyT_two (i := 7) (j := 13) (oi := { dst := some 150, op := Op.buildSlice 38 1 #[(0, Operand.tmp 149)], type := 38, pos := "outright.go:124", after := #[{ on := 6, ground := Ground.data }], guard := none }) (oj := { dst := some 16, op := Op.alloc 24, type := 0, pos := "outright.go:124", after := #[], guard := none }) (by kernel_rfl) rfl rfl (fun K hK => ?_) (fun K hK => ?_)
          · skip
            go_simp
            have SC7 : Hid (w13.heap.size ≤ w83.heap.size) := RR.out.ty.1
            obtain ⟨V84, hW⟩ : ∃ V84, w83.alloc (.cells #[.int .i64 (j : Int)] 3) = V84 := ⟨_, rfl⟩
            obtain ⟨b, sz84⟩ := alo1 w83 (.cells #[.int .i64 (j : Int)] 3)
            rw [hW] at b sz84
            have C7 : Hid (V84.cell? ⟨w83.heap.size, 0, none⟩ = some (.int .i64 (j : Int))) := by unfold Hid; rw [← hW]; exact (Cel.new w83 3 [.int .i64 (j : Int)]).at (i := 0) rfl
            replace GB := hid (below_step GB.out b)
            replace RR := hid (RR.out.now b)
            rw [hW]
            clear hW b sz84
            refine hK.out _ _ (fun _ => KX.out _ RR.out.b0) ?_
            clear hK
            try simp only [Act.put]
            refine wpAnyT_two (i := 8) (j := 13) (oi := { dst := some 151, op := Op.call { callee := Callee.builtin Builtin.append, args := #[Operand.tmp 148, Operand.tmp 150], argTypes := #[38, 38] }, type := 38, pos := "outright.go:124", after := #[{ on := 5, ground := Ground.data }, { on := 7, ground := Ground.data }, { on := 4, ground := Ground.chain }], guard := none }) (oj := { dst := some 16, op := Op.alloc 24, type := 0, pos := "outright.go:124", after := #[], guard := none }) (by kernel_rfl) rfl rfl (fun K hK => ?_) (fun K hK => ?_)
            · skip
              refine step_append_ivs V84 rfl (.tmp 148) (.tmp 150) rfl W0.heap.size (.slice ac rl capc) sc j rfl RR.out.c w83.heap.size rfl C7.out HLC.out RR.out.b0.size ?_
              intro g2 l2 cap2 w85 hl2 hI hg hb
              replace RR := hid (RR.out.addC HW0.out hI.out hg.out hb.out)
              replace GB := hid (Below.refl w85.heap.size w85)
              clear hI hg hb C7 hl2
              refine hK.out _ _ (fun _ => KX.out _ RR.out.b0) ?_
              clear hK
              refine wpAnyT_two (i := 9) (j := 13) (oi := { dst := some 152, op := Op.call { callee := Callee.value (Operand.func 14), args := #[Operand.tmp 143, Operand.tmp 147, Operand.tmp 151], argTypes := #[24, 38, 38] }, type := 36, pos := "outright.go:124", after := #[{ on := 0, ground := Ground.data }, { on := 4, ground := Ground.data }, { on := 8, ground := Ground.data }, { on := 8, ground := Ground.chain }], guard := none }) (oj := { dst := some 16, op := Op.alloc 24, type := 0, pos := "outright.go:124", after := #[], guard := none }) (by kernel_rfl) rfl rfl (fun K hK => ?_) (fun K hK => ?_)
              · skip
                go_simp
                go_at_call 14
                refine (pick_yes (M0.out.now RR.out.b0) (RR.out.r.in9 (by rw [HL1.out]; omega)) (RR.out.c.in9 (by rw [HL2.out]; omega)) HB1.out HB2.out (by rw [HL1.out]; omega) (by rw [HL2.out]; omega)).mono ?_
                rintro e w86 ⟨vp, rfl, mp, b⟩
                have lz86 := (show Below _ _ _ from b).size
                replace GB := hid (below_step GB.out b)
                rw [HL1.out, HL2.out] at mp
                obtain ⟨ap2, qp2, hvp, -, -⟩ := mp.mx.form
                obtain ⟨lp2, hlp⟩ : ∃ lp2, kk * kk = lp2 := ⟨_, rfl⟩
                rw [hlp] at hvp
                subst hvp
                have MP := hid mp.mx
                clear mp hlp
                replace RR := hid (RR.out.now b)
                clear b
                refine hK.out _ _ (fun _ => KX.out _ RR.out.b0) ?_
                clear hK
                refine wpAnyT_take (i := 10) (oi := { dst := some 142, op := Op.move (Operand.tmp 152), type := 36, pos := "outright.go:124", after := #[{ on := 9, ground := Ground.data }], guard := none }) (v := (.tuple #[(.agg #[.int .i64 (kk : Int), .int .i64 (kk : Int), .slice ap2 lp2 qp2]), (.int .i64 0)])) rfl (by kernel_rfl) (fun _ _ _ h => h) (Or.inl ⟨by rfl, ?_⟩) (KX.out _ RR.out.b0) ?_
                · intro w hSw
                  (try dsimp only at hSw)
                  go_simp
                simp only [Act.put, List.setIfInBounds_toArray, List.set_cons_zero, List.set_cons_succ]
                refine wpAnyT_take (i := 11) (oi := { dst := some 153, op := Op.extract (Operand.tmp 142) 0, type := 24, pos := "outright.go:124", after := #[{ on := 10, ground := Ground.data }], guard := none }) (v := (.agg #[.int .i64 (kk : Int), .int .i64 (kk : Int), .slice ap2 lp2 qp2])) rfl (by kernel_rfl) (fun _ _ _ h => h) (Or.inl ⟨by rfl, ?_⟩) (KX.out _ RR.out.b0) ?_
                · intro w hSw
                  (try dsimp only at hSw)
                  go_simp
                simp only [Act.put, List.setIfInBounds_toArray, List.set_cons_zero, List.set_cons_succ]
                refine wpAnyT_take (i := 12) (oi := { dst := some 154, op := Op.extract (Operand.tmp 142) 1, type := 35, pos := "outright.go:124", after := #[{ on := 10, ground := Ground.data }, { on := 14, ground := Ground.gcOnly Departure.lateStores }], guard := none }) (v := (.int .i64 0)) rfl (by kernel_rfl) (fun _ _ _ h => h) (Or.inl ⟨by rfl, ?_⟩) (KX.out _ RR.out.b0) ?_
                · intro w hSw
                  (try dsimp only at hSw)
                  go_simp
                simp only [Act.put, List.setIfInBounds_toArray, List.set_cons_zero, List.set_cons_succ]
                refine wpAnyT_one (i := 13) (o := { dst := some 16, op := Op.alloc 24, type := 0, pos := "outright.go:124", after := #[], guard := none }) (by kernel_rfl) rfl (fun K hK => ?_)
                go_simp
                obtain ⟨V87, hW⟩ : ∃ V87, w86.alloc mbox = V87 := ⟨_, rfl⟩
                obtain ⟨b, sz87⟩ := alo1 w86 mbox
                rw [hW] at b sz87
                replace GB := hid (below_step GB.out b)
                have SB : Hid (w13.heap.size ≤ w86.heap.size) := RR.out.ty.1
                have DB : Hid (Cel V87 w86.heap.size 24 [.int .i64 0, .int .i64 0, .slice none 0 0]) := by unfold Hid; rw [← hW]; exact Cel.new w86 _ _
                clear sz87
                replace RR := hid (RR.out.now b)
                replace MP := hid (MP.out.now b)
                rw [hW]
                clear hW b
                refine hK.out _ _ (fun _ => KX.out _ RR.out.b0) ?_
                clear hK
                try simp only [Act.put]
                refine wpAnyT_one (i := 14) (o := { dst := none, op := Op.store 24 (Operand.tmp 16) (Operand.tmp 153), type := 0, pos := "outright.go:124", after := #[{ on := 13, ground := Ground.data }, { on := 11, ground := Ground.data }, { on := 9, ground := Ground.chain }, { on := 0, ground := Ground.phase }, { on := 1, ground := Ground.phase }, { on := 2, ground := Ground.phase }, { on := 3, ground := Ground.phase }, { on := 4, ground := Ground.phase }, { on := 5, ground := Ground.phase }, { on := 6, ground := Ground.phase }, { on := 7, ground := Ground.phase }, { on := 8, ground := Ground.phase }, { on := 9, ground := Ground.phase }, { on := 10, ground := Ground.phase }, { on := 11, ground := Ground.phase }, { on := 12, ground := Ground.textOnly Departure.lateStores }, { on := 13, ground := Ground.phase }], guard := none }) (by kernel_rfl) rfl (fun K hK => ?_)
                have e0 := DB.out.at (i := 0) rfl
                have e1 := DB.out.at (i := 1) rfl
                have e2 := DB.out.at (i := 2) rfl
                have e3 := DB.out.fz 0
                have e4 := DB.out.fz 1
                have e5 := DB.out.fz 2
                go_simp
                clear e0 e1 e2 e3 e4 e5
                obtain ⟨V88, hW⟩ : ∃ V88, (((V87.setCell ⟨w86.heap.size, 0, none⟩ (.int .i64 (kk : Int))).setCell ⟨w86.heap.size, 1, none⟩ (.int .i64 (kk : Int))).setCell ⟨w86.heap.size, 2, none⟩ (.slice ap2 lp2 qp2)) = V88 := ⟨_, rfl⟩
                have FP : Hid (PkN w w13 V88 (.pointer (some ⟨w86.heap.size, 0, none⟩)) (.int .i64 0) kk (pickL r c xs (rs ++ [i]) (sc ++ [j]))) := by
                  unfold Hid; rw [← hW]
                  exact pkn_put DB.out MP.out RR.out.bw RR.out.ty SB.out HWW.out
                replace RR : Hid (B15 W0 V88) := by
                  unfold Hid; rw [← hW]
                  have q := Nat.le_trans HW2.out SB.out
                  exact ⟨bset (bset (bset RR.out.b0 q) q) q⟩
                clear GB
                rw [hW]
                clear hW
                refine hK.out _ _ (fun _ => KX.out _ RR.out.b0) ?_
                clear hK
                try simp only [Act.put]
                refine wpAnyT_one (i := 15) (o := { dst := some 10, op := Op.assign (Operand.tmp 154), type := 35, pos := "outright.go:124", after := #[{ on := 12, ground := Ground.data }, { on := 14, ground := Ground.chain }, { on := 0, ground := Ground.phase }, { on := 1, ground := Ground.phase }, { on := 2, ground := Ground.phase }, { on := 3, ground := Ground.phase }, { on := 4, ground := Ground.phase }, { on := 5, ground := Ground.phase }, { on := 6, ground := Ground.phase }, { on := 7, ground := Ground.phase }, { on := 8, ground := Ground.phase }, { on := 9, ground := Ground.phase }, { on := 10, ground := Ground.phase }, { on := 11, ground := Ground.phase }, { on := 12, ground := Ground.phase }, { on := 13, ground := Ground.phase }, { on := 14, ground := Ground.phase }], guard := none }) (by kernel_rfl) rfl (fun K hK => ?_)
                go_simp
                refine hK.out _ _ (fun h => absurd h (by decide)) ?_
                clear hK
                try simp only [Act.put]
                refine wpAnyT_done (by kernel_rfl) ?_ _
                clear DB SB MP RR
                go_wp2_with fail
                go_meet
                exact FP.out
              · skip
                go_simp
                obtain ⟨V89, hW⟩ : ∃ V89, w85.alloc mbox = V89 := ⟨_, rfl⟩
                obtain ⟨b, sz89⟩ := alo1 w85 mbox
                rw [hW] at b sz89
                replace GB := hid (below_step GB.out b)
                have SB : Hid (w13.heap.size ≤ w85.heap.size) := RR.out.ty.1
                have DB : Hid (Cel V89 w85.heap.size 24 [.int .i64 0, .int .i64 0, .slice none 0 0]) := by unfold Hid; rw [← hW]; exact Cel.new w85 _ _
                clear sz89
                replace RR := hid (RR.out.now b)
                rw [hW]
                clear hW b
                refine hK.out _ _ (fun _ => KX.out _ RR.out.b0) ?_
                clear hK
                try simp only [Act.put]
                refine wpAnyT_one (i := 9) (o := { dst := some 152, op := Op.call { callee := Callee.value (Operand.func 14), args := #[Operand.tmp 143, Operand.tmp 147, Operand.tmp 151], argTypes := #[24, 38, 38] }, type := 36, pos := "outright.go:124", after := #[{ on := 0, ground := Ground.data }, { on := 4, ground := Ground.data }, { on := 8, ground := Ground.data }, { on := 8, ground := Ground.chain }], guard := none }) (by kernel_rfl) rfl (fun K hK => ?_)
                go_simp
                go_at_call 14
                refine (pick_yes (M0.out.now RR.out.b0) (RR.out.r.in9 (by rw [HL1.out]; omega)) (RR.out.c.in9 (by rw [HL2.out]; omega)) HB1.out HB2.out (by rw [HL1.out]; omega) (by rw [HL2.out]; omega)).mono ?_
                rintro e w90 ⟨vp, rfl, mp, b⟩
                have lz90 := (show Below _ _ _ from b).size
                replace GB := hid (below_step GB.out b)
                rw [HL1.out, HL2.out] at mp
                obtain ⟨ap2, qp2, hvp, -, -⟩ := mp.mx.form
                obtain ⟨lp2, hlp⟩ : ∃ lp2, kk * kk = lp2 := ⟨_, rfl⟩
                rw [hlp] at hvp
                subst hvp
                have MP := hid mp.mx
                clear mp hlp
                replace DB := hid (DB.out.step b)
                replace RR := hid (RR.out.now b)
                clear b
                refine hK.out _ _ (fun _ => KX.out _ RR.out.b0) ?_
                clear hK
                refine wpAnyT_take (i := 10) (oi := { dst := some 142, op := Op.move (Operand.tmp 152), type := 36, pos := "outright.go:124", after := #[{ on := 9, ground := Ground.data }], guard := none }) (v := (.tuple #[(.agg #[.int .i64 (kk : Int), .int .i64 (kk : Int), .slice ap2 lp2 qp2]), (.int .i64 0)])) rfl (by kernel_rfl) (fun _ _ _ h => h) (Or.inl ⟨by rfl, ?_⟩) (KX.out _ RR.out.b0) ?_
                · intro w hSw
                  (try dsimp only at hSw)
                  go_simp
                simp only [Act.put, List.setIfInBounds_toArray, List.set_cons_zero, List.set_cons_succ]
                refine wpAnyT_take (i := 11) (oi := { dst := some 153, op := Op.extract (Operand.tmp 142) 0, type := 24, pos := "outright.go:124", after := #[{ on := 10, ground := Ground.data }], guard := none }) (v := (.agg #[.int .i64 (kk : Int), .int .i64 (kk : Int), .slice ap2 lp2 qp2])) rfl (by kernel_rfl) (fun _ _ _ h => h) (Or.inl ⟨by rfl, ?_⟩) (KX.out _ RR.out.b0) ?_
                · intro w hSw
                  (try dsimp only at hSw)
                  go_simp
                simp only [Act.put, List.setIfInBounds_toArray, List.set_cons_zero, List.set_cons_succ]
                refine wpAnyT_take (i := 12) (oi := { dst := some 154, op := Op.extract (Operand.tmp 142) 1, type := 35, pos := "outright.go:124", after := #[{ on := 10, ground := Ground.data }, { on := 14, ground := Ground.gcOnly Departure.lateStores }], guard := none }) (v := (.int .i64 0)) rfl (by kernel_rfl) (fun _ _ _ h => h) (Or.inl ⟨by rfl, ?_⟩) (KX.out _ RR.out.b0) ?_
                · intro w hSw
                  (try dsimp only at hSw)
                  go_simp
                simp only [Act.put, List.setIfInBounds_toArray, List.set_cons_zero, List.set_cons_succ]
                refine wpAnyT_one (i := 14) (o := { dst := none, op := Op.store 24 (Operand.tmp 16) (Operand.tmp 153), type := 0, pos := "outright.go:124", after := #[{ on := 13, ground := Ground.data }, { on := 11, ground := Ground.data }, { on := 9, ground := Ground.chain }, { on := 0, ground := Ground.phase }, { on := 1, ground := Ground.phase }, { on := 2, ground := Ground.phase }, { on := 3, ground := Ground.phase }, { on := 4, ground := Ground.phase }, { on := 5, ground := Ground.phase }, { on := 6, ground := Ground.phase }, { on := 7, ground := Ground.phase }, { on := 8, ground := Ground.phase }, { on := 9, ground := Ground.phase }, { on := 10, ground := Ground.phase }, { on := 11, ground := Ground.phase }, { on := 12, ground := Ground.textOnly Departure.lateStores }, { on := 13, ground := Ground.phase }], guard := none }) (by kernel_rfl) rfl (fun K hK => ?_)
                have e0 := DB.out.at (i := 0) rfl
                have e1 := DB.out.at (i := 1) rfl
                have e2 := DB.out.at (i := 2) rfl
                have e3 := DB.out.fz 0
                have e4 := DB.out.fz 1
                have e5 := DB.out.fz 2
                go_simp
                clear e0 e1 e2 e3 e4 e5
                obtain ⟨V91, hW⟩ : ∃ V91, (((w90.setCell ⟨w85.heap.size, 0, none⟩ (.int .i64 (kk : Int))).setCell ⟨w85.heap.size, 1, none⟩ (.int .i64 (kk : Int))).setCell ⟨w85.heap.size, 2, none⟩ (.slice ap2 lp2 qp2)) = V91 := ⟨_, rfl⟩
                have FP : Hid (PkN w w13 V91 (.pointer (some ⟨w85.heap.size, 0, none⟩)) (.int .i64 0) kk (pickL r c xs (rs ++ [i]) (sc ++ [j]))) := by
                  unfold Hid; rw [← hW]
                  exact pkn_put DB.out MP.out RR.out.bw RR.out.ty SB.out HWW.out
                replace RR : Hid (B15 W0 V91) := by
                  unfold Hid; rw [← hW]
                  have q := Nat.le_trans HW2.out SB.out
                  exact ⟨bset (bset (bset RR.out.b0 q) q) q⟩
                clear GB
                rw [hW]
                clear hW
                refine hK.out _ _ (fun _ => KX.out _ RR.out.b0) ?_
                clear hK
                try simp only [Act.put]
                refine wpAnyT_one (i := 15) (o := { dst := some 10, op := Op.assign (Operand.tmp 154), type := 35, pos := "outright.go:124", after := #[{ on := 12, ground := Ground.data }, { on := 14, ground := Ground.chain }, { on := 0, ground := Ground.phase }, { on := 1, ground := Ground.phase }, { on := 2, ground := Ground.phase }, { on := 3, ground := Ground.phase }, { on := 4, ground := Ground.phase }, { on := 5, ground := Ground.phase }, { on := 6, ground := Ground.phase }, { on := 7, ground := Ground.phase }, { on := 8, ground := Ground.phase }, { on := 9, ground := Ground.phase }, { on := 10, ground := Ground.phase }, { on := 11, ground := Ground.phase }, { on := 12, ground := Ground.phase }, { on := 13, ground := Ground.phase }, { on := 14, ground := Ground.phase }], guard := none }) (by kernel_rfl) rfl (fun K hK => ?_)
                go_simp
                refine hK.out _ _ (fun h => absurd h (by decide)) ?_
                clear hK
                try simp only [Act.put]
                refine wpAnyT_done (by kernel_rfl) ?_ _
                clear DB SB MP RR
                go_wp2_with fail
                go_meet
                exact FP.out
            · skip
              go_simp
              obtain ⟨V92, hW⟩ : ∃ V92, V84.alloc mbox = V92 := ⟨_, rfl⟩
              obtain ⟨b, sz92⟩ := alo1 V84 mbox
              rw [hW] at b sz92
              replace GB := hid (below_step GB.out b)
              have SB : Hid (w13.heap.size ≤ V84.heap.size) := RR.out.ty.1
              have DB : Hid (Cel V92 V84.heap.size 24 [.int .i64 0, .int .i64 0, .slice none 0 0]) := by unfold Hid; rw [← hW]; exact Cel.new V84 _ _
              clear sz92
              replace C7 := hid (cnow b C7.out)
              replace RR := hid (RR.out.now b)
              rw [hW]
              clear hW b
              refine hK.out _ _ (fun _ => KX.out _ RR.out.b0) ?_
              clear hK
              try simp only [Act.put]
              refine wpAnyT_one (i := 8) (o := { dst := some 151, op := Op.call { callee := Callee.builtin Builtin.append, args := #[Operand.tmp 148, Operand.tmp 150], argTypes := #[38, 38] }, type := 38, pos := "outright.go:124", after := #[{ on := 5, ground := Ground.data }, { on := 7, ground := Ground.data }, { on := 4, ground := Ground.chain }], guard := none }) (by kernel_rfl) rfl (fun K hK => ?_)
              refine step_append_ivs V92 rfl (.tmp 148) (.tmp 150) rfl W0.heap.size (.slice ac rl capc) sc j rfl RR.out.c w83.heap.size rfl C7.out HLC.out RR.out.b0.size ?_
              intro g2 l2 cap2 w93 hl2 hI hg hb
              replace DB := hid (DB.out.ty13 (Ty.grown RR.out.c hg.out) (by decide))
              replace RR := hid (RR.out.addC HW0.out hI.out hg.out hb.out)
              replace GB := hid (Below.refl w93.heap.size w93)
              clear hI hg hb C7 hl2
              refine hK.out _ _ (fun _ => KX.out _ RR.out.b0) ?_
              clear hK
              refine wpAnyT_one (i := 9) (o := { dst := some 152, op := Op.call { callee := Callee.value (Operand.func 14), args := #[Operand.tmp 143, Operand.tmp 147, Operand.tmp 151], argTypes := #[24, 38, 38] }, type := 36, pos := "outright.go:124", after := #[{ on := 0, ground := Ground.data }, { on := 4, ground := Ground.data }, { on := 8, ground := Ground.data }, { on := 8, ground := Ground.chain }], guard := none }) (by kernel_rfl) rfl (fun K hK => ?_)
              go_simp
              go_at_call 14
              refine (pick_yes (M0.out.now RR.out.b0) (RR.out.r.in9 (by rw [HL1.out]; omega)) (RR.out.c.in9 (by rw [HL2.out]; omega)) HB1.out HB2.out (by rw [HL1.out]; omega) (by rw [HL2.out]; omega)).mono ?_
              rintro e w94 ⟨vp, rfl, mp, b⟩
              have lz94 := (show Below _ _ _ from b).size
              replace GB := hid (below_step GB.out b)
              rw [HL1.out, HL2.out] at mp
              obtain ⟨ap2, qp2, hvp, -, -⟩ := mp.mx.form
              obtain ⟨lp2, hlp⟩ : ∃ lp2, kk * kk = lp2 := ⟨_, rfl⟩
              rw [hlp] at hvp
              subst hvp
              have MP := hid mp.mx
              clear mp hlp
              replace DB := hid (DB.out.step b)
              replace RR := hid (RR.out.now b)
              clear b
              refine hK.out _ _ (fun _ => KX.out _ RR.out.b0) ?_
              clear hK
              refine wpAnyT_take (i := 10) (oi := { dst := some 142, op := Op.move (Operand.tmp 152), type := 36, pos := "outright.go:124", after := #[{ on := 9, ground := Ground.data }], guard := none }) (v := (.tuple #[(.agg #[.int .i64 (kk : Int), .int .i64 (kk : Int), .slice ap2 lp2 qp2]), (.int .i64 0)])) rfl (by kernel_rfl) (fun _ _ _ h => h) (Or.inl ⟨by rfl, ?_⟩) (KX.out _ RR.out.b0) ?_
              · intro w hSw
                (try dsimp only at hSw)
                go_simp
              simp only [Act.put, List.setIfInBounds_toArray, List.set_cons_zero, List.set_cons_succ]
              refine wpAnyT_take (i := 11) (oi := { dst := some 153, op := Op.extract (Operand.tmp 142) 0, type := 24, pos := "outright.go:124", after := #[{ on := 10, ground := Ground.data }], guard := none }) (v := (.agg #[.int .i64 (kk : Int), .int .i64 (kk : Int), .slice ap2 lp2 qp2])) rfl (by kernel_rfl) (fun _ _ _ h => h) (Or.inl ⟨by rfl, ?_⟩) (KX.out _ RR.out.b0) ?_
              · intro w hSw
                (try dsimp only at hSw)
                go_simp
              simp only [Act.put, List.setIfInBounds_toArray, List.set_cons_zero, List.set_cons_succ]
              refine wpAnyT_take (i := 12) (oi := { dst := some 154, op := Op.extract (Operand.tmp 142) 1, type := 35, pos := "outright.go:124", after := #[{ on := 10, ground := Ground.data }, { on := 14, ground := Ground.gcOnly Departure.lateStores }], guard := none }) (v := (.int .i64 0)) rfl (by kernel_rfl) (fun _ _ _ h => h) (Or.inl ⟨by rfl, ?_⟩) (KX.out _ RR.out.b0) ?_
              · intro w hSw
                (try dsimp only at hSw)
                go_simp
              simp only [Act.put, List.setIfInBounds_toArray, List.set_cons_zero, List.set_cons_succ]
              refine wpAnyT_one (i := 14) (o := { dst := none, op := Op.store 24 (Operand.tmp 16) (Operand.tmp 153), type := 0, pos := "outright.go:124", after := #[{ on := 13, ground := Ground.data }, { on := 11, ground := Ground.data }, { on := 9, ground := Ground.chain }, { on := 0, ground := Ground.phase }, { on := 1, ground := Ground.phase }, { on := 2, ground := Ground.phase }, { on := 3, ground := Ground.phase }, { on := 4, ground := Ground.phase }, { on := 5, ground := Ground.phase }, { on := 6, ground := Ground.phase }, { on := 7, ground := Ground.phase }, { on := 8, ground := Ground.phase }, { on := 9, ground := Ground.phase }, { on := 10, ground := Ground.phase }, { on := 11, ground := Ground.phase }, { on := 12, ground := Ground.textOnly Departure.lateStores }, { on := 13, ground := Ground.phase }], guard := none }) (by kernel_rfl) rfl (fun K hK => ?_)
              have e0 := DB.out.at (i := 0) rfl
              have e1 := DB.out.at (i := 1) rfl
              have e2 := DB.out.at (i := 2) rfl
              have e3 := DB.out.fz 0
              have e4 := DB.out.fz 1
              have e5 := DB.out.fz 2
              go_simp
              clear e0 e1 e2 e3 e4 e5
              obtain ⟨V95, hW⟩ : ∃ V95, (((w94.setCell ⟨V84.heap.size, 0, none⟩ (.int .i64 (kk : Int))).setCell ⟨V84.heap.size, 1, none⟩ (.int .i64 (kk : Int))).setCell ⟨V84.heap.size, 2, none⟩ (.slice ap2 lp2 qp2)) = V95 := ⟨_, rfl⟩
              have FP : Hid (PkN w w13 V95 (.pointer (some ⟨V84.heap.size, 0, none⟩)) (.int .i64 0) kk (pickL r c xs (rs ++ [i]) (sc ++ [j]))) := by
                unfold Hid; rw [← hW]
                exact pkn_put DB.out MP.out RR.out.bw RR.out.ty SB.out HWW.out
              replace RR : Hid (B15 W0 V95) := by
                unfold Hid; rw [← hW]
                have q := Nat.le_trans HW2.out SB.out
                exact ⟨bset (bset (bset RR.out.b0 q) q) q⟩
              clear GB
              rw [hW]
              clear hW
              refine hK.out _ _ (fun _ => KX.out _ RR.out.b0) ?_
              clear hK
              try simp only [Act.put]
              refine wpAnyT_one (i := 15) (o := { dst := some 10, op := Op.assign (Operand.tmp 154), type := 35, pos := "outright.go:124", after := #[{ on := 12, ground := Ground.data }, { on := 14, ground := Ground.chain }, { on := 0, ground := Ground.phase }, { on := 1, ground := Ground.phase }, { on := 2, ground := Ground.phase }, { on := 3, ground := Ground.phase }, { on := 4, ground := Ground.phase }, { on := 5, ground := Ground.phase }, { on := 6, ground := Ground.phase }, { on := 7, ground := Ground.phase }, { on := 8, ground := Ground.phase }, { on := 9, ground := Ground.phase }, { on := 10, ground := Ground.phase }, { on := 11, ground := Ground.phase }, { on := 12, ground := Ground.phase }, { on := 13, ground := Ground.phase }, { on := 14, ground := Ground.phase }], guard := none }) (by kernel_rfl) rfl (fun K hK => ?_)
              go_simp
              refine hK.out _ _ (fun h => absurd h (by decide)) ?_
              clear hK
              try simp only [Act.put]
              refine wpAnyT_done (by kernel_rfl) ?_ _
              clear DB SB MP RR
              go_wp2_with fail
              go_meet
              exact FP.out
          · skip
            go_simp
            obtain ⟨V96, hW⟩ : ∃ V96, w83.alloc mbox = V96 := ⟨_, rfl⟩
            obtain ⟨b, sz96⟩ := alo1 w83 mbox
            rw [hW] at b sz96
            replace GB := hid (below_step GB.out b)
            have SB : Hid (w13.heap.size ≤ w83.heap.size) := RR.out.ty.1
            have DB : Hid (Cel V96 w83.heap.size 24 [.int .i64 0, .int .i64 0, .slice none 0 0]) := by unfold Hid; rw [← hW]; exact Cel.new w83 _ _
            clear sz96
            replace RR := hid (RR.out.now b)
            rw [hW]
            clear hW b
            refine hK.out _ _ (fun _ => KX.out _ RR.out.b0) ?_
            clear hK
            try simp only [Act.put]
            refine wpAnyT_one (i := 7) (o := { dst := some 150, op := Op.buildSlice 38 1 #[(0, Operand.tmp 149)], type := 38, pos := "outright.go:124", after := #[{ on := 6, ground := Ground.data }], guard := none }) (by kernel_rfl) rfl (fun K hK => ?_)
            go_simp
            have SC7 : Hid (w13.heap.size ≤ V96.heap.size) := RR.out.ty.1
            obtain ⟨V97, hW⟩ : ∃ V97, V96.alloc (.cells #[.int .i64 (j : Int)] 3) = V97 := ⟨_, rfl⟩
            obtain ⟨b, sz97⟩ := alo1 V96 (.cells #[.int .i64 (j : Int)] 3)
            rw [hW] at b sz97
            have C7 : Hid (V97.cell? ⟨V96.heap.size, 0, none⟩ = some (.int .i64 (j : Int))) := by unfold Hid; rw [← hW]; exact (Cel.new V96 3 [.int .i64 (j : Int)]).at (i := 0) rfl
            replace GB := hid (below_step GB.out b)
            replace DB := hid (DB.out.step b)
            replace RR := hid (RR.out.now b)
            rw [hW]
            clear hW b sz97
            refine hK.out _ _ (fun _ => KX.out _ RR.out.b0) ?_
            clear hK
            try simp only [Act.put]
            refine wpAnyT_one (i := 8) (o := { dst := some 151, op := Op.call { callee := Callee.builtin Builtin.append, args := #[Operand.tmp 148, Operand.tmp 150], argTypes := #[38, 38] }, type := 38, pos := "outright.go:124", after := #[{ on := 5, ground := Ground.data }, { on := 7, ground := Ground.data }, { on := 4, ground := Ground.chain }], guard := none }) (by kernel_rfl) rfl (fun K hK => ?_)
            refine step_append_ivs V97 rfl (.tmp 148) (.tmp 150) rfl W0.heap.size (.slice ac rl capc) sc j rfl RR.out.c V96.heap.size rfl C7.out HLC.out RR.out.b0.size ?_
            intro g2 l2 cap2 w98 hl2 hI hg hb
            replace DB := hid (DB.out.ty13 (Ty.grown RR.out.c hg.out) (by decide))
            replace RR := hid (RR.out.addC HW0.out hI.out hg.out hb.out)
            replace GB := hid (Below.refl w98.heap.size w98)
            clear hI hg hb C7 hl2
            refine hK.out _ _ (fun _ => KX.out _ RR.out.b0) ?_
            clear hK
            refine wpAnyT_one (i := 9) (o := { dst := some 152, op := Op.call { callee := Callee.value (Operand.func 14), args := #[Operand.tmp 143, Operand.tmp 147, Operand.tmp 151], argTypes := #[24, 38, 38] }, type := 36, pos := "outright.go:124", after := #[{ on := 0, ground := Ground.data }, { on := 4, ground := Ground.data }, { on := 8, ground := Ground.data }, { on := 8, ground := Ground.chain }], guard := none }) (by kernel_rfl) rfl (fun K hK => ?_)
            go_simp
            go_at_call 14
            refine (pick_yes (M0.out.now RR.out.b0) (RR.out.r.in9 (by rw [HL1.out]; omega)) (RR.out.c.in9 (by rw [HL2.out]; omega)) HB1.out HB2.out (by rw [HL1.out]; omega) (by rw [HL2.out]; omega)).mono ?_
            rintro e w99 ⟨vp, rfl, mp, b⟩
            have lz99 := (show Below _ _ _ from b).size
            replace GB := hid (below_step GB.out b)
            rw [HL1.out, HL2.out] at mp
            obtain ⟨ap2, qp2, hvp, -, -⟩ := mp.mx.form
            obtain ⟨lp2, hlp⟩ : ∃ lp2, kk * kk = lp2 := ⟨_, rfl⟩
            rw [hlp] at hvp
            subst hvp
            have MP := hid mp.mx
            clear mp hlp
            replace DB := hid (DB.out.step b)
            replace RR := hid (RR.out.now b)
            clear b
            refine hK.out _ _ (fun _ => KX.out _ RR.out.b0) ?_
            clear hK
            refine wpAnyT_take (i := 10) (oi := { dst := some 142, op := Op.move (Operand.tmp 152), type := 36, pos := "outright.go:124", after := #[{ on := 9, ground := Ground.data }], guard := none }) (v := (.tuple #[(.agg #[.int .i64 (kk : Int), .int .i64 (kk : Int), .slice ap2 lp2 qp2]), (.int .i64 0)])) rfl (by kernel_rfl) (fun _ _ _ h => h) (Or.inl ⟨by rfl, ?_⟩) (KX.out _ RR.out.b0) ?_
            · intro w hSw
              (try dsimp only at hSw)
              go_simp
            simp only [Act.put, List.setIfInBounds_toArray, List.set_cons_zero, List.set_cons_succ]
            refine wpAnyT_take (i := 11) (oi := { dst := some 153, op := Op.extract (Operand.tmp 142) 0, type := 24, pos := "outright.go:124", after := #[{ on := 10, ground := Ground.data }], guard := none }) (v := (.agg #[.int .i64 (kk : Int), .int .i64 (kk : Int), .slice ap2 lp2 qp2])) rfl (by kernel_rfl) (fun _ _ _ h => h) (Or.inl ⟨by rfl, ?_⟩) (KX.out _ RR.out.b0) ?_
            · intro w hSw
              (try dsimp only at hSw)
              go_simp
            simp only [Act.put, List.setIfInBounds_toArray, List.set_cons_zero, List.set_cons_succ]
            refine wpAnyT_take (i := 12) (oi := { dst := some 154, op := Op.extract (Operand.tmp 142) 1, type := 35, pos := "outright.go:124", after := #[{ on := 10, ground := Ground.data }, { on := 14, ground := Ground.gcOnly Departure.lateStores }], guard := none }) (v := (.int .i64 0)) rfl (by kernel_rfl) (fun _ _ _ h => h) (Or.inl ⟨by rfl, ?_⟩) (KX.out _ RR.out.b0) ?_
            · intro w hSw
              (try dsimp only at hSw)
              go_simp
            simp only [Act.put, List.setIfInBounds_toArray, List.set_cons_zero, List.set_cons_succ]
            refine wpAnyT_one (i := 14) (o := { dst := none, op := Op.store 24 (Operand.tmp 16) (Operand.tmp 153), type := 0, pos := "outright.go:124", after := #[{ on := 13, ground := Ground.data }, { on := 11, ground := Ground.data }, { on := 9, ground := Ground.chain }, { on := 0, ground := Ground.phase }, { on := 1, ground := Ground.phase }, { on := 2, ground := Ground.phase }, { on := 3, ground := Ground.phase }, { on := 4, ground := Ground.phase }, { on := 5, ground := Ground.phase }, { on := 6, ground := Ground.phase }, { on := 7, ground := Ground.phase }, { on := 8, ground := Ground.phase }, { on := 9, ground := Ground.phase }, { on := 10, ground := Ground.phase }, { on := 11, ground := Ground.phase }, { on := 12, ground := Ground.textOnly Departure.lateStores }, { on := 13, ground := Ground.phase }], guard := none }) (by kernel_rfl) rfl (fun K hK => ?_)
            have e0 := DB.out.at (i := 0) rfl
            have e1 := DB.out.at (i := 1) rfl
            have e2 := DB.out.at (i := 2) rfl
            have e3 := DB.out.fz 0
            have e4 := DB.out.fz 1
            have e5 := DB.out.fz 2
            go_simp
            clear e0 e1 e2 e3 e4 e5
            obtain ⟨V100, hW⟩ : ∃ V100, (((w99.setCell ⟨w83.heap.size, 0, none⟩ (.int .i64 (kk : Int))).setCell ⟨w83.heap.size, 1, none⟩ (.int .i64 (kk : Int))).setCell ⟨w83.heap.size, 2, none⟩ (.slice ap2 lp2 qp2)) = V100 := ⟨_, rfl⟩
            have FP : Hid (PkN w w13 V100 (.pointer (some ⟨w83.heap.size, 0, none⟩)) (.int .i64 0) kk (pickL r c xs (rs ++ [i]) (sc ++ [j]))) := by
              unfold Hid; rw [← hW]
              exact pkn_put DB.out MP.out RR.out.bw RR.out.ty SB.out HWW.out
            replace RR : Hid (B15 W0 V100) := by
              unfold Hid; rw [← hW]
              have q := Nat.le_trans HW2.out SB.out
              exact ⟨bset (bset (bset RR.out.b0 q) q) q⟩
            clear GB
            rw [hW]
            clear hW
            refine hK.out _ _ (fun _ => KX.out _ RR.out.b0) ?_
            clear hK
            try simp only [Act.put]
            refine wpAnyT_one (i := 15) (o := { dst := some 10, op := Op.assign (Operand.tmp 154), type := 35, pos := "outright.go:124", after := #[{ on := 12, ground := Ground.data }, { on := 14, ground := Ground.chain }, { on := 0, ground := Ground.phase }, { on := 1, ground := Ground.phase }, { on := 2, ground := Ground.phase }, { on := 3, ground := Ground.phase }, { on := 4, ground := Ground.phase }, { on := 5, ground := Ground.phase }, { on := 6, ground := Ground.phase }, { on := 7, ground := Ground.phase }, { on := 8, ground := Ground.phase }, { on := 9, ground := Ground.phase }, { on := 10, ground := Ground.phase }, { on := 11, ground := Ground.phase }, { on := 12, ground := Ground.phase }, { on := 13, ground := Ground.phase }, { on := 14, ground := Ground.phase }], guard := none }) (by kernel_rfl) rfl (fun K hK => ?_)
            go_simp
            refine hK.out _ _ (fun h => absurd h (by decide)) ?_
            clear hK
            try simp only [Act.put]
            refine wpAnyT_done (by kernel_rfl) ?_ _
            clear DB SB MP RR
            go_wp2_with fail
            go_meet
            exact FP.out
        · skip
          go_simp
          have SC7 : Hid (w13.heap.size ≤ V82.heap.size) := RR.out.ty.1
          obtain ⟨V101, hW⟩ : ∃ V101, V82.alloc (.cells #[.int .i64 (j : Int)] 3) = V101 := ⟨_, rfl⟩
          obtain ⟨b, sz101⟩ := alo1 V82 (.cells #[.int .i64 (j : Int)] 3)
          rw [hW] at b sz101
          have C7 : Hid (V101.cell? ⟨V82.heap.size, 0, none⟩ = some (.int .i64 (j : Int))) := by unfold Hid; rw [← hW]; exact (Cel.new V82 3 [.int .i64 (j : Int)]).at (i := 0) rfl
          replace GB := hid (below_step GB.out b)
          replace C3 := hid (cnow b C3.out)
          replace RR := hid (RR.out.now b)
          rw [hW]
          clear hW b sz101
          refine hK.out _ _ (fun _ => KX.out _ RR.out.b0) ?_
          clear hK
          try simp only [Act.put]
          refine wpAnyT_two (i := 4) (j := 13) (oi := { dst := some 147, op := Op.call { callee := Callee.builtin Builtin.append, args := #[Operand.tmp 144, Operand.tmp 146], argTypes := #[38, 38] }, type := 38, pos := "outright.go:124", after := #[{ on := 1, ground := Ground.data }, { on := 3, ground := Ground.data }], guard := none }) (oj := { dst := some 16, op := Op.alloc 24, type := 0, pos := "outright.go:124", after := #[], guard := none }) (by kernel_rfl) rfl rfl (fun K hK => ?_) (fun K hK => ?_)
          · skip
            refine step_append_ivs V101 rfl (.tmp 144) (.tmp 146) rfl W0.heap.size (.slice ar rl capr) rs i rfl RR.out.r D81.heap.size rfl C3.out HLR.out RR.out.b0.size ?_
            intro g1 l1 cap1 w102 hl1 hI hg hb
            replace C7 := hid (cell_grown13 hg.out HVR.out SC7.out C7.out)
            replace RR := hid (RR.out.addR HW0.out hI.out hg.out hb.out)
            replace GB := hid (Below.refl w102.heap.size w102)
            clear hI hg hb C3 hl1
            refine hK.out _ _ (fun _ => KX.out _ RR.out.b0) ?_
            clear hK
            refine wpAnyT_two (i := 8) (j := 13) (oi := { dst := some 151, op := Op.call { callee := Callee.builtin Builtin.append, args := #[Operand.tmp 148, Operand.tmp 150], argTypes := #[38, 38] }, type := 38, pos := "outright.go:124", after := #[{ on := 5, ground := Ground.data }, { on := 7, ground := Ground.data }, { on := 4, ground := Ground.chain }], guard := none }) (oj := { dst := some 16, op := Op.alloc 24, type := 0, pos := "outright.go:124", after := #[], guard := none }) (by kernel_rfl) rfl rfl (fun K hK => ?_) (fun K hK => ?_)
            · skip
              refine step_append_ivs w102 rfl (.tmp 148) (.tmp 150) rfl W0.heap.size (.slice ac rl capc) sc j rfl RR.out.c V82.heap.size rfl C7.out HLC.out RR.out.b0.size ?_
              intro g2 l2 cap2 w103 hl2 hI hg hb
              replace RR := hid (RR.out.addC HW0.out hI.out hg.out hb.out)
              replace GB := hid (Below.refl w103.heap.size w103)
              clear hI hg hb C7 hl2
              refine hK.out _ _ (fun _ => KX.out _ RR.out.b0) ?_
              clear hK
              refine wpAnyT_two (i := 9) (j := 13) (oi := { dst := some 152, op := Op.call { callee := Callee.value (Operand.func 14), args := #[Operand.tmp 143, Operand.tmp 147, Operand.tmp 151], argTypes := #[24, 38, 38] }, type := 36, pos := "outright.go:124", after := #[{ on := 0, ground := Ground.data }, { on := 4, ground := Ground.data }, { on := 8, ground := Ground.data }, { on := 8, ground := Ground.chain }], guard := none }) (oj := { dst := some 16, op := Op.alloc 24, type := 0, pos := "outright.go:124", after := #[], guard := none }) (by kernel_rfl) rfl rfl (fun K hK => ?_) (fun K hK => ?_)
              · skip
                go_simp
                go_at_call 14
                refine (pick_yes (M0.out.now RR.out.b0) (RR.out.r.in9 (by rw [HL1.out]; omega)) (RR.out.c.in9 (by rw [HL2.out]; omega)) HB1.out HB2.out (by rw [HL1.out]; omega) (by rw [HL2.out]; omega)).mono ?_
                rintro e w104 ⟨vp, rfl, mp, b⟩
                have lz104 := (show Below _ _ _ from b).size
                replace GB := hid (below_step GB.out b)
                rw [HL1.out, HL2.out] at mp
                obtain ⟨ap2, qp2, hvp, -, -⟩ := mp.mx.form
                obtain ⟨lp2, hlp⟩ : ∃ lp2, kk * kk = lp2 := ⟨_, rfl⟩
                rw [hlp] at hvp
                subst hvp
                have MP := hid mp.mx
                clear mp hlp
                replace RR := hid (RR.out.now b)
                clear b
                refine hK.out _ _ (fun _ => KX.out _ RR.out.b0) ?_
                clear hK
                refine wpAnyT_take (i := 10) (oi := { dst := some 142, op := Op.move (Operand.tmp 152), type := 36, pos := "outright.go:124", after := #[{ on := 9, ground := Ground.data }], guard := none }) (v := (.tuple #[(.agg #[.int .i64 (kk : Int), .int .i64 (kk : Int), .slice ap2 lp2 qp2]), (.int .i64 0)])) rfl (by kernel_rfl) (fun _ _ _ h => h) (Or.inl ⟨by rfl, ?_⟩) (KX.out _ RR.out.b0) ?_
                · intro w hSw
                  (try dsimp only at hSw)
                  go_simp
                simp only [Act.put, List.setIfInBounds_toArray, List.set_cons_zero, List.set_cons_succ]
                refine wpAnyT_take (i := 11) (oi := { dst := some 153, op := Op.extract (Operand.tmp 142) 0, type := 24, pos := "outright.go:124", after := #[{ on := 10, ground := Ground.data }], guard := none }) (v := (.agg #[.int .i64 (kk : Int), .int .i64 (kk : Int), .slice ap2 lp2 qp2])) rfl (by kernel_rfl) (fun _ _ _ h => h) (Or.inl ⟨by rfl, ?_⟩) (KX.out _ RR.out.b0) ?_
                · intro w hSw
                  (try dsimp only at hSw)
                  go_simp
                simp only [Act.put, List.setIfInBounds_toArray, List.set_cons_zero, List.set_cons_succ]
                refine wpAnyT_take (i := 12) (oi := { dst := some 154, op := Op.extract (Operand.tmp 142) 1, type := 35, pos := "outright.go:124", after := #[{ on := 10, ground := Ground.data }, { on := 14, ground := Ground.gcOnly Departure.lateStores }], guard := none }) (v := (.int .i64 0)) rfl (by kernel_rfl) (fun _ _ _ h => h) (Or.inl ⟨by rfl, ?_⟩) (KX.out _ RR.out.b0) ?_
                · intro w hSw
                  (try dsimp only at hSw)
                  go_simp
                simp only [Act.put, List.setIfInBounds_toArray, List.set_cons_zero, List.set_cons_succ]
                refine wpAnyT_one (i := 13) (o := { dst := some 16, op := Op.alloc 24, type := 0, pos := "outright.go:124", after := #[], guard := none }) (by kernel_rfl) rfl (fun K hK => ?_)
                go_simp
                obtain ⟨V105, hW⟩ : ∃ V105, w104.alloc mbox = V105 := ⟨_, rfl⟩
                obtain ⟨b, sz105⟩ := alo1 w104 mbox
                rw [hW] at b sz105
                replace GB := hid (below_step GB.out b)
                have SB : Hid (w13.heap.size ≤ w104.heap.size) := RR.out.ty.1
                have DB : Hid (Cel V105 w104.heap.size 24 [.int .i64 0, .int .i64 0, .slice none 0 0]) := by unfold Hid; rw [← hW]; exact Cel.new w104 _ _
                clear sz105
                replace RR := hid (RR.out.now b)
                replace MP := hid (MP.out.now b)
                rw [hW]
                clear hW b
                refine hK.out _ _ (fun _ => KX.out _ RR.out.b0) ?_
                clear hK
                try simp only [Act.put]
                refine wpAnyT_one (i := 14) (o := { dst := none, op := Op.store 24 (Operand.tmp 16) (Operand.tmp 153), type := 0, pos := "outright.go:124", after := #[{ on := 13, ground := Ground.data }, { on := 11, ground := Ground.data }, { on := 9, ground := Ground.chain }, { on := 0, ground := Ground.phase }, { on := 1, ground := Ground.phase }, { on := 2, ground := Ground.phase }, { on := 3, ground := Ground.phase }, { on := 4, ground := Ground.phase }, { on := 5, ground := Ground.phase }, { on := 6, ground := Ground.phase }, { on := 7, ground := Ground.phase }, { on := 8, ground := Ground.phase }, { on := 9, ground := Ground.phase }, { on := 10, ground := Ground.phase }, { on := 11, ground := Ground.phase }, { on := 12, ground := Ground.textOnly Departure.lateStores }, { on := 13, ground := Ground.phase }], guard := none }) (by kernel_rfl) rfl (fun K hK => ?_)
                have e0 := DB.out.at (i := 0) rfl
                have e1 := DB.out.at (i := 1) rfl
                have e2 := DB.out.at (i := 2) rfl
                have e3 := DB.out.fz 0
                have e4 := DB.out.fz 1
                have e5 := DB.out.fz 2
                go_simp
                clear e0 e1 e2 e3 e4 e5
                obtain ⟨V106, hW⟩ : ∃ V106, (((V105.setCell ⟨w104.heap.size, 0, none⟩ (.int .i64 (kk : Int))).setCell ⟨w104.heap.size, 1, none⟩ (.int .i64 (kk : Int))).setCell ⟨w104.heap.size, 2, none⟩ (.slice ap2 lp2 qp2)) = V106 := ⟨_, rfl⟩
                have FP : Hid (PkN w w13 V106 (.pointer (some ⟨w104.heap.size, 0, none⟩)) (.int .i64 0) kk (pickL r c xs (rs ++ [i]) (sc ++ [j]))) := by
                  unfold Hid; rw [← hW]
                  exact pkn_put DB.out MP.out RR.out.bw RR.out.ty SB.out HWW.out
                replace RR : Hid (B15 W0 V106) := by
                  unfold Hid; rw [← hW]
                  have q := Nat.le_trans HW2.out SB.out
                  exact ⟨bset (bset (bset RR.out.b0 q) q) q⟩
                clear GB
                rw [hW]
                clear hW
                refine hK.out _ _ (fun _ => KX.out _ RR.out.b0) ?_
                clear hK
                try simp only [Act.put]
                refine wpAnyT_one (i := 15) (o := { dst := some 10, op := Op.assign (Operand.tmp 154), type := 35, pos := "outright.go:124", after := #[{ on := 12, ground := Ground.data }, { on := 14, ground := Ground.chain }, { on := 0, ground := Ground.phase }, { on := 1, ground := Ground.phase }, { on := 2, ground := Ground.phase }, { on := 3, ground := Ground.phase }, { on := 4, ground := Ground.phase }, { on := 5, ground := Ground.phase }, { on := 6, ground := Ground.phase }, { on := 7, ground := Ground.phase }, { on := 8, ground := Ground.phase }, { on := 9, ground := Ground.phase }, { on := 10, ground := Ground.phase }, { on := 11, ground := Ground.phase }, { on := 12, ground := Ground.phase }, { on := 13, ground := Ground.phase }, { on := 14, ground := Ground.phase }], guard := none }) (by kernel_rfl) rfl (fun K hK => ?_)
                go_simp
                refine hK.out _ _ (fun h => absurd h (by decide)) ?_
                clear hK
                try simp only [Act.put]
                refine wpAnyT_done (by kernel_rfl) ?_ _
                clear DB SB MP RR
                go_wp2_with fail
                go_meet
                exact FP.out
              · skip
                go_simp
                obtain ⟨V107, hW⟩ : ∃ V107, w103.alloc mbox = V107 := ⟨_, rfl⟩
                obtain ⟨b, sz107⟩ := alo1 w103 mbox
                rw [hW] at b sz107
                replace GB := hid (below_step GB.out b)
                have SB : Hid (w13.heap.size ≤ w103.heap.size) := RR.out.ty.1
                have DB : Hid (Cel V107 w103.heap.size 24 [.int .i64 0, .int .i64 0, .slice none 0 0]) := by unfold Hid; rw [← hW]; exact Cel.new w103 _ _
                clear sz107
                replace RR := hid (RR.out.now b)
                rw [hW]
                clear hW b
                refine hK.out _ _ (fun _ => KX.out _ RR.out.b0) ?_
                clear hK
                try simp only [Act.put]
                refine wpAnyT_one (i := 9) (o := { dst := some 152, op := Op.call { callee := Callee.value (Operand.func 14), args := #[Operand.tmp 143, Operand.tmp 147, Operand.tmp 151], argTypes := #[24, 38, 38] }, type := 36, pos := "outright.go:124", after := #[{ on := 0, ground := Ground.data }, { on := 4, ground := Ground.data }, { on := 8, ground := Ground.data }, { on := 8, ground := Ground.chain }], guard := none }) (by kernel_rfl) rfl (fun K hK => ?_)
                go_simp
                go_at_call 14
                refine (pick_yes (M0.out.now RR.out.b0) (RR.out.r.in9 (by rw [HL1.out]; omega)) (RR.out.c.in9 (by rw [HL2.out]; omega)) HB1.out HB2.out (by rw [HL1.out]; omega) (by rw [HL2.out]; omega)).mono ?_
                rintro e w108 ⟨vp, rfl, mp, b⟩
                have lz108 := (show Below _ _ _ from b).size
                replace GB := hid (below_step GB.out b)
                rw [HL1.out, HL2.out] at mp
                obtain ⟨ap2, qp2, hvp, -, -⟩ := mp.mx.form
                obtain ⟨lp2, hlp⟩ : ∃ lp2, kk * kk = lp2 := ⟨_, rfl⟩
                rw [hlp] at hvp
                subst hvp
                have MP := hid mp.mx
                clear mp hlp
                replace DB := hid (DB.out.step b)
                replace RR := hid (RR.out.now b)
                clear b
                refine hK.out _ _ (fun _ => KX.out _ RR.out.b0) ?_
                clear hK
                refine wpAnyT_take (i := 10) (oi := { dst := some 142, op := Op.move (Operand.tmp 152), type := 36, pos := "outright.go:124", after := #[{ on := 9, ground := Ground.data }], guard := none }) (v := (.tuple #[(.agg #[.int .i64 (kk : Int), .int .i64 (kk : Int), .slice ap2 lp2 qp2]), (.int .i64 0)])) rfl (by kernel_rfl) (fun _ _ _ h => h) (Or.inl ⟨by rfl, ?_⟩) (KX.out _ RR.out.b0) ?_
                · intro w hSw
                  (try dsimp only at hSw)
                  go_simp
                simp only [Act.put, List.setIfInBounds_toArray, List.set_cons_zero, List.set_cons_succ]
                refine wpAnyT_take (i := 11) (oi := { dst := some 153, op := Op.extract (Operand.tmp 142) 0, type := 24, pos := "outright.go:124", after := #[{ on := 10, ground := Ground.data }], guard := none }) (v := (.agg #[.int .i64 (kk : Int), .int .i64 (kk : Int), .slice ap2 lp2 qp2])) rfl (by kernel_rfl) (fun _ _ _ h => h) (Or.inl ⟨by rfl, ?_⟩) (KX.out _ RR.out.b0) ?_
                · intro w hSw
                  (try dsimp only at hSw)
                  go_simp
                simp only [Act.put, List.setIfInBounds_toArray, List.set_cons_zero, List.set_cons_succ]
                refine wpAnyT_take (i := 12) (oi := { dst := some 154, op := Op.extract (Operand.tmp 142) 1, type := 35, pos := "outright.go:124", after := #[{ on := 10, ground := Ground.data }, { on := 14, ground := Ground.gcOnly Departure.lateStores }], guard := none }) (v := (.int .i64 0)) rfl (by kernel_rfl) (fun _ _ _ h => h) (Or.inl ⟨by rfl, ?_⟩) (KX.out _ RR.out.b0) ?_
                · intro w hSw
                  (try dsimp only at hSw)
                  go_simp
                simp only [Act.put, List.setIfInBounds_toArray, List.set_cons_zero, List.set_cons_succ]
                refine wpAnyT_one (i := 14) (o := { dst := none, op := Op.store 24 (Operand.tmp 16) (Operand.tmp 153), type := 0, pos := "outright.go:124", after := #[{ on := 13, ground := Ground.data }, { on := 11, ground := Ground.data }, { on := 9, ground := Ground.chain }, { on := 0, ground := Ground.phase }, { on := 1, ground := Ground.phase }, { on := 2, ground := Ground.phase }, { on := 3, ground := Ground.phase }, { on := 4, ground := Ground.phase }, { on := 5, ground := Ground.phase }, { on := 6, ground := Ground.phase }, { on := 7, ground := Ground.phase }, { on := 8, ground := Ground.phase }, { on := 9, ground := Ground.phase }, { on := 10, ground := Ground.phase }, { on := 11, ground := Ground.phase }, { on := 12, ground := Ground.textOnly Departure.lateStores }, { on := 13, ground := Ground.phase }], guard := none }) (by kernel_rfl) rfl (fun K hK => ?_)
                have e0 := DB.out.at (i := 0) rfl
                have e1 := DB.out.at (i := 1) rfl
                have e2 := DB.out.at (i := 2) rfl
                have e3 := DB.out.fz 0
                have e4 := DB.out.fz 1
                have e5 := DB.out.fz 2
                go_simp
                clear e0 e1 e2 e3 e4 e5
                obtain ⟨V109, hW⟩ : ∃ V109, (((w108.setCell ⟨w103.heap.size, 0, none⟩ (.int .i64 (kk : Int))).setCell ⟨w103.heap.size, 1, none⟩ (.int .i64 (kk : Int))).setCell ⟨w103.heap.size, 2, none⟩ (.slice ap2 lp2 qp2)) = V109 := ⟨_, rfl⟩
                have FP : Hid (PkN w w13 V109 (.pointer (some ⟨w103.heap.size, 0, none⟩)) (.int .i64 0) kk (pickL r c xs (rs ++ [i]) (sc ++ [j]))) := by
                  unfold Hid; rw [← hW]
                  exact pkn_put DB.out MP.out RR.out.bw RR.out.ty SB.out HWW.out
                replace RR : Hid (B15 W0 V109) := by
                  unfold Hid; rw [← hW]
                  have q := Nat.le_trans HW2.out SB.out
                  exact ⟨bset (bset (bset RR.out.b0 q) q) q⟩
                clear GB
                rw [hW]
                clear hW
                refine hK.out _ _ (fun _ => KX.out _ RR.out.b0) ?_
                clear hK
                try simp only [Act.put]
                refine wpAnyT_one (i := 15) (o := { dst := some 10, op := Op.assign (Operand.tmp 154), type := 35, pos := "outright.go:124", after := #[{ on := 12, ground := Ground.data }, { on := 14, ground := Ground.chain }, { on := 0, ground := Ground.phase }, { on := 1, ground := Ground.phase }, { on := 2, ground := Ground.phase }, { on := 3, ground := Ground.phase }, { on := 4, ground := Ground.phase }, { on := 5, ground := Ground.phase }, { on := 6, ground := Ground.phase }, { on := 7, ground := Ground.phase }, { on := 8, ground := Ground.phase }, { on := 9, ground := Ground.phase }, { on := 10, ground := Ground.phase }, { on := 11, ground := Ground.phase }, { on := 12, ground := Ground.phase }, { on := 13, ground := Ground.phase }, { on := 14, ground := Ground.phase }], guard := none }) (by kernel_rfl) rfl (fun K hK => ?_)
                go_simp
                refine hK.out _ _ (fun h => absurd h (by decide)) ?_
                clear hK
                try simp only [Act.put]
                refine wpAnyT_done (by kernel_rfl) ?_ _
                clear DB SB MP RR
                go_wp2_with fail
                go_meet
                exact FP.out
            · skip
              go_simp
              obtain ⟨V110, hW⟩ : ∃ V110, w102.alloc mbox = V110 := ⟨_, rfl⟩
              obtain ⟨b, sz110⟩ := alo1 w102 mbox
              rw [hW] at b sz110
              replace GB := hid (below_step GB.out b)
              have SB : Hid (w13.heap.size ≤ w102.heap.size) := RR.out.ty.1
              have DB : Hid (Cel V110 w102.heap.size 24 [.int .i64 0, .int .i64 0, .slice none 0 0]) := by unfold Hid; rw [← hW]; exact Cel.new w102 _ _
              clear sz110
              replace C7 := hid (cnow b C7.out)
              replace RR := hid (RR.out.now b)
              rw [hW]
              clear hW b
              refine hK.out _ _ (fun _ => KX.out _ RR.out.b0) ?_
              clear hK
              try simp only [Act.put]
              refine wpAnyT_one (i := 8) (o := { dst := some 151, op := Op.call { callee := Callee.builtin Builtin.append, args := #[Operand.tmp 148, Operand.tmp 150], argTypes := #[38, 38] }, type := 38, pos := "outright.go:124", after := #[{ on := 5, ground := Ground.data }, { on := 7, ground := Ground.data }, { on := 4, ground := Ground.chain }], guard := none }) (by kernel_rfl) rfl (fun K hK => ?_)
              refine step_append_ivs V110 rfl (.tmp 148) (.tmp 150) rfl W0.heap.size (.slice ac rl capc) sc j rfl RR.out.c V82.heap.size rfl C7.out HLC.out RR.out.b0.size ?_
              intro g2 l2 cap2 w111 hl2 hI hg hb
              replace DB := hid (DB.out.ty13 (Ty.grown RR.out.c hg.out) (by decide))
              replace RR := hid (RR.out.addC HW0.out hI.out hg.out hb.out)
              replace GB := hid (Below.refl w111.heap.size w111)
              clear hI hg hb C7 hl2
              refine hK.out _ _ (fun _ => KX.out _ RR.out.b0) ?_
              clear hK
              refine wpAnyT_one (i := 9) (o := { dst := some 152, op := Op.call { callee := Callee.value (Operand.func 14), args := #[Operand.tmp 143, Operand.tmp 147, Operand.tmp 151], argTypes := #[24, 38, 38] }, type := 36, pos := "outright.go:124", after := #[{ on := 0, ground := Ground.data }, { on := 4, ground := Ground.data }, { on := 8, ground := Ground.data }, { on := 8, ground := Ground.chain }], guard := none }) (by kernel_rfl) rfl (fun K hK => ?_)
              go_simp
              go_at_call 14
              refine (pick_yes (M0.out.now RR.out.b0) (RR.out.r.in9 (by rw [HL1.out]; omega)) (RR.out.c.in9 (by rw [HL2.out]; omega)) HB1.out HB2.out (by rw [HL1.out]; omega) (by rw [HL2.out]; omega)).mono ?_
              rintro e w112 ⟨vp, rfl, mp, b⟩
              have lz112 := (show Below _ _ _ from b).size
              replace GB := hid (below_step GB.out b)
              rw [HL1.out, HL2.out] at mp
              obtain ⟨ap2, qp2, hvp, -, -⟩ := mp.mx.form
              obtain ⟨lp2, hlp⟩ : ∃ lp2, kk * kk = lp2 := ⟨_, rfl⟩
              rw [hlp] at hvp
              subst hvp
              have MP := hid mp.mx
              clear mp hlp
              replace DB := hid (DB.out.step b)
              replace RR := hid (RR.out.now b)
              clear b
              refine hK.out _ _ (fun _ => KX.out _ RR.out.b0) ?_
              clear hK
              refine wpAnyT_take (i := 10) (oi := { dst := some 142, op := Op.move (Operand.tmp 152), type := 36, pos := "outright.go:124", after := #[{ on := 9, ground := Ground.data }], guard := none }) (v := (.tuple #[(.agg #[.int .i64 (kk : Int), .int .i64 (kk : Int), .slice ap2 lp2 qp2]), (.int .i64 0)])) rfl (by kernel_rfl) (fun _ _ _ h => h) (Or.inl ⟨by rfl, ?_⟩) (KX.out _ RR.out.b0) ?_
              · intro w hSw
                (try dsimp only at hSw)
                go_simp
              simp only [Act.put, List.setIfInBounds_toArray, List.set_cons_zero, List.set_cons_succ]
              refine wpAnyT_take (i := 11) (oi := { dst := some 153, op := Op.extract (Operand.tmp 142) 0, type := 24, pos := "outright.go:124", after := #[{ on := 10, ground := Ground.data }], guard := none }) (v := (.agg #[.int .i64 (kk : Int), .int .i64 (kk : Int), .slice ap2 lp2 qp2])) rfl (by kernel_rfl) (fun _ _ _ h => h) (Or.inl ⟨by rfl, ?_⟩) (KX.out _ RR.out.b0) ?_
              · intro w hSw
                (try dsimp only at hSw)
                go_simp
              simp only [Act.put, List.setIfInBounds_toArray, List.set_cons_zero, List.set_cons_succ]
              refine wpAnyT_take (i := 12) (oi := { dst := some 154, op := Op.extract (Operand.tmp 142) 1, type := 35, pos := "outright.go:124", after := #[{ on := 10, ground := Ground.data }, { on := 14, ground := Ground.gcOnly Departure.lateStores }], guard := none }) (v := (.int .i64 0)) rfl (by kernel_rfl) (fun _ _ _ h => h) (Or.inl ⟨by rfl, ?_⟩) (KX.out _ RR.out.b0) ?_
              · intro w hSw
                (try dsimp only at hSw)
                go_simp
              simp only [Act.put, List.setIfInBounds_toArray, List.set_cons_zero, List.set_cons_succ]
              refine wpAnyT_one (i := 14) (o := { dst := none, op := Op.store 24 (Operand.tmp 16) (Operand.tmp 153), type := 0, pos := "outright.go:124", after := #[{ on := 13, ground := Ground.data }, { on := 11, ground := Ground.data }, { on := 9, ground := Ground.chain }, { on := 0, ground := Ground.phase }, { on := 1, ground := Ground.phase }, { on := 2, ground := Ground.phase }, { on := 3, ground := Ground.phase }, { on := 4, ground := Ground.phase }, { on := 5, ground := Ground.phase }, { on := 6, ground := Ground.phase }, { on := 7, ground := Ground.phase }, { on := 8, ground := Ground.phase }, { on := 9, ground := Ground.phase }, { on := 10, ground := Ground.phase }, { on := 11, ground := Ground.phase }, { on := 12, ground := Ground.textOnly Departure.lateStores }, { on := 13, ground := Ground.phase }], guard := none }) (by kernel_rfl) rfl (fun K hK => ?_)
              have e0 := DB.out.at (i := 0) rfl
              have e1 := DB.out.at (i := 1) rfl
              have e2 := DB.out.at (i := 2) rfl
              have e3 := DB.out.fz 0
              have e4 := DB.out.fz 1
              have e5 := DB.out.fz 2
              go_simp
              clear e0 e1 e2 e3 e4 e5
              obtain ⟨V113, hW⟩ : ∃ V113, (((w112.setCell ⟨w102.heap.size, 0, none⟩ (.int .i64 (kk : Int))).setCell ⟨w102.heap.size, 1, none⟩ (.int .i64 (kk : Int))).setCell ⟨w102.heap.size, 2, none⟩ (.slice ap2 lp2 qp2)) = V113 := ⟨_, rfl⟩
              have FP : Hid (PkN w w13 V113 (.pointer (some ⟨w102.heap.size, 0, none⟩)) (.int .i64 0) kk (pickL r c xs (rs ++ [i]) (sc ++ [j]))) := by
                unfold Hid; rw [← hW]
                exact pkn_put DB.out MP.out RR.out.bw RR.out.ty SB.out HWW.out
              replace RR : Hid (B15 W0 V113) := by
                unfold Hid; rw [← hW]
                have q := Nat.le_trans HW2.out SB.out
                exact ⟨bset (bset (bset RR.out.b0 q) q) q⟩
              clear GB
              rw [hW]
              clear hW
              refine hK.out _ _ (fun _ => KX.out _ RR.out.b0) ?_
              clear hK
              try simp only [Act.put]
              refine wpAnyT_one (i := 15) (o := { dst := some 10, op := Op.assign (Operand.tmp 154), type := 35, pos := "outright.go:124", after := #[{ on := 12, ground := Ground.data }, { on := 14, ground := Ground.chain }, { on := 0, ground := Ground.phase }, { on := 1, ground := Ground.phase }, { on := 2, ground := Ground.phase }, { on := 3, ground := Ground.phase }, { on := 4, ground := Ground.phase }, { on := 5, ground := Ground.phase }, { on := 6, ground := Ground.phase }, { on := 7, ground := Ground.phase }, { on := 8, ground := Ground.phase }, { on := 9, ground := Ground.phase }, { on := 10, ground := Ground.phase }, { on := 11, ground := Ground.phase }, { on := 12, ground := Ground.phase }, { on := 13, ground := Ground.phase }, { on := 14, ground := Ground.phase }], guard := none }) (by kernel_rfl) rfl (fun K hK => ?_)
              go_simp
              refine hK.out _ _ (fun h => absurd h (by decide)) ?_
              clear hK
              try simp only [Act.put]
              refine wpAnyT_done (by kernel_rfl) ?_ _
              clear DB SB MP RR
              go_wp2_with fail
              go_meet
              exact FP.out
          · skip
            go_simp
            obtain ⟨V114, hW⟩ : ∃ V114, V101.alloc mbox = V114 := ⟨_, rfl⟩
            obtain ⟨b, sz114⟩ := alo1 V101 mbox
            rw [hW] at b sz114
            replace GB := hid (below_step GB.out b)
            have SB : Hid (w13.heap.size ≤ V101.heap.size) := RR.out.ty.1
            have DB : Hid (Cel V114 V101.heap.size 24 [.int .i64 0, .int .i64 0, .slice none 0 0]) := by unfold Hid; rw [← hW]; exact Cel.new V101 _ _
            clear sz114
            replace C3 := hid (cnow b C3.out)
            replace C7 := hid (cnow b C7.out)
            replace RR := hid (RR.out.now b)
            rw [hW]
            clear hW b
            refine hK.out _ _ (fun _ => KX.out _ RR.out.b0) ?_
            clear hK
            try simp only [Act.put]
            refine wpAnyT_one (i := 4) (o := { dst := some 147, op := Op.call { callee := Callee.builtin Builtin.append, args := #[Operand.tmp 144, Operand.tmp 146], argTypes := #[38, 38] }, type := 38, pos := "outright.go:124", after := #[{ on := 1, ground := Ground.data }, { on := 3, ground := Ground.data }], guard := none }) (by kernel_rfl) rfl (fun K hK => ?_)
            refine step_append_ivs V114 rfl (.tmp 144) (.tmp 146) rfl W0.heap.size (.slice ar rl capr) rs i rfl RR.out.r D81.heap.size rfl C3.out HLR.out RR.out.b0.size ?_
            intro g1 l1 cap1 w115 hl1 hI hg hb
            replace C7 := hid (cell_grown13 hg.out HVR.out SC7.out C7.out)
            replace DB := hid (DB.out.ty13 (Ty.grown RR.out.r hg.out) (by decide))
            replace RR := hid (RR.out.addR HW0.out hI.out hg.out hb.out)
            replace GB := hid (Below.refl w115.heap.size w115)
            clear hI hg hb C3 hl1
            refine hK.out _ _ (fun _ => KX.out _ RR.out.b0) ?_
            clear hK
            refine wpAnyT_one (i := 8) (o := { dst := some 151, op := Op.call { callee := Callee.builtin Builtin.append, args := #[Operand.tmp 148, Operand.tmp 150], argTypes := #[38, 38] }, type := 38, pos := "outright.go:124", after := #[{ on := 5, ground := Ground.data }, { on := 7, ground := Ground.data }, { on := 4, ground := Ground.chain }], guard := none }) (by kernel_rfl) rfl (fun K hK => ?_)
            refine step_append_ivs w115 rfl (.tmp 148) (.tmp 150) rfl W0.heap.size (.slice ac rl capc) sc j rfl RR.out.c V82.heap.size rfl C7.out HLC.out RR.out.b0.size ?_
            intro g2 l2 cap2 w116 hl2 hI hg hb
            replace DB := hid (DB.out.ty13 (Ty.grown RR.out.c hg.out) (by decide))
            replace RR := hid (RR.out.addC HW0.out hI.out hg.out hb.out)
            replace GB := hid (Below.refl w116.heap.size w116)
            clear hI hg hb C7 hl2
            refine hK.out _ _ (fun _ => KX.out _ RR.out.b0) ?_
            clear hK
            refine wpAnyT_one (i := 9) (o := { dst := some 152, op := Op.call { callee := Callee.value (Operand.func 14), args := #[Operand.tmp 143, Operand.tmp 147, Operand.tmp 151], argTypes := #[24, 38, 38] }, type := 36, pos := "outright.go:124", after := #[{ on := 0, ground := Ground.data }, { on := 4, ground := Ground.data }, { on := 8, ground := Ground.data }, { on := 8, ground := Ground.chain }], guard := none }) (by kernel_rfl) rfl (fun K hK => ?_)
            go_simp
            go_at_call 14
            refine (pick_yes (M0.out.now RR.out.b0) (RR.out.r.in9 (by rw [HL1.out]; omega)) (RR.out.c.in9 (by rw [HL2.out]; omega)) HB1.out HB2.out (by rw [HL1.out]; omega) (by rw [HL2.out]; omega)).mono ?_
            rintro e w117 ⟨vp, rfl, mp, b⟩
            have lz117 := (show Below _ _ _ from b).size
            replace GB := hid (below_step GB.out b)
            rw [HL1.out, HL2.out] at mp
            obtain ⟨ap2, qp2, hvp, -, -⟩ := mp.mx.form
            obtain ⟨lp2, hlp⟩ : ∃ lp2, kk * kk = lp2 := ⟨_, rfl⟩
            rw [hlp] at hvp
            subst hvp
            have MP := hid mp.mx
            clear mp hlp
            replace DB := hid (DB.out.step b)
            replace RR := hid (RR.out.now b)
            clear b
            refine hK.out _ _ (fun _ => KX.out _ RR.out.b0) ?_
            clear hK
            refine wpAnyT_take (i := 10) (oi := { dst := some 142, op := Op.move (Operand.tmp 152), type := 36, pos := "outright.go:124", after := #[{ on := 9, ground := Ground.data }], guard := none }) (v := (.tuple #[(.agg #[.int .i64 (kk : Int), .int .i64 (kk : Int), .slice ap2 lp2 qp2]), (.int .i64 0)])) rfl (by kernel_rfl) (fun _ _ _ h => h) (Or.inl ⟨by rfl, ?_⟩) (KX.out _ RR.out.b0) ?_
            · intro w hSw
              (try dsimp only at hSw)
              go_simp
            simp only [Act.put, List.setIfInBounds_toArray, List.set_cons_zero, List.set_cons_succ]
            refine wpAnyT_take (i := 11) (oi := { dst := some 153, op := Op.extract (Operand.tmp 142) 0, type := 24, pos := "outright.go:124", after := #[{ on := 10, ground := Ground.data }], guard := none }) (v := (.agg #[.int .i64 (kk : Int), .int .i64 (kk : Int), .slice ap2 lp2 qp2])) rfl (by kernel_rfl) (fun _ _ _ h => h) (Or.inl ⟨by rfl, ?_⟩) (KX.out _ RR.out.b0) ?_
            · intro w hSw
              (try dsimp only at hSw)
              go_simp
            simp only [Act.put, List.setIfInBounds_toArray, List.set_cons_zero, List.set_cons_succ]
            refine wpAnyT_take (i := 12) (oi := { dst := some 154, op := Op.extract (Operand.tmp 142) 1, type := 35, pos := "outright.go:124", after := #[{ on := 10, ground := Ground.data }, { on := 14, ground := Ground.gcOnly Departure.lateStores }], guard := none }) (v := (.int .i64 0)) rfl (by kernel_rfl) (fun _ _ _ h => h) (Or.inl ⟨by rfl, ?_⟩) (KX.out _ RR.out.b0) ?_
            · intro w hSw
              (try dsimp only at hSw)
              go_simp
            simp only [Act.put, List.setIfInBounds_toArray, List.set_cons_zero, List.set_cons_succ]
            refine wpAnyT_one (i := 14) (o := { dst := none, op := Op.store 24 (Operand.tmp 16) (Operand.tmp 153), type := 0, pos := "outright.go:124", after := #[{ on := 13, ground := Ground.data }, { on := 11, ground := Ground.data }, { on := 9, ground := Ground.chain }, { on := 0, ground := Ground.phase }, { on := 1, ground := Ground.phase }, { on := 2, ground := Ground.phase }, { on := 3, ground := Ground.phase }, { on := 4, ground := Ground.phase }, { on := 5, ground := Ground.phase }, { on := 6, ground := Ground.phase }, { on := 7, ground := Ground.phase }, { on := 8, ground := Ground.phase }, { on := 9, ground := Ground.phase }, { on := 10, ground := Ground.phase }, { on := 11, ground := Ground.phase }, { on := 12, ground := Ground.textOnly Departure.lateStores }, { on := 13, ground := Ground.phase }], guard := none }) (by kernel_rfl) rfl (fun K hK => ?_)
            have e0 := DB.out.at (i := 0) rfl
            have e1 := DB.out.at (i := 1) rfl
            have e2 := DB.out.at (i := 2) rfl
            have e3 := DB.out.fz 0
            have e4 := DB.out.fz 1
            have e5 := DB.out.fz 2
            go_simp
            clear e0 e1 e2 e3 e4 e5
            obtain ⟨V118, hW⟩ : ∃ V118, (((w117.setCell ⟨V101.heap.size, 0, none⟩ (.int .i64 (kk : Int))).setCell ⟨V101.heap.size, 1, none⟩ (.int .i64 (kk : Int))).setCell ⟨V101.heap.size, 2, none⟩ (.slice ap2 lp2 qp2)) = V118 := ⟨_, rfl⟩
            have FP : Hid (PkN w w13 V118 (.pointer (some ⟨V101.heap.size, 0, none⟩)) (.int .i64 0) kk (pickL r c xs (rs ++ [i]) (sc ++ [j]))) := by
              unfold Hid; rw [← hW]
              exact pkn_put DB.out MP.out RR.out.bw RR.out.ty SB.out HWW.out
            replace RR : Hid (B15 W0 V118) := by
              unfold Hid; rw [← hW]
              have q := Nat.le_trans HW2.out SB.out
              exact ⟨bset (bset (bset RR.out.b0 q) q) q⟩
            clear GB
            rw [hW]
            clear hW
            refine hK.out _ _ (fun _ => KX.out _ RR.out.b0) ?_
            clear hK
            try simp only [Act.put]
            refine wpAnyT_one (i := 15) (o := { dst := some 10, op := Op.assign (Operand.tmp 154), type := 35, pos := "outright.go:124", after := #[{ on := 12, ground := Ground.data }, { on := 14, ground := Ground.chain }, { on := 0, ground := Ground.phase }, { on := 1, ground := Ground.phase }, { on := 2, ground := Ground.phase }, { on := 3, ground := Ground.phase }, { on := 4, ground := Ground.phase }, { on := 5, ground := Ground.phase }, { on := 6, ground := Ground.phase }, { on := 7, ground := Ground.phase }, { on := 8, ground := Ground.phase }, { on := 9, ground := Ground.phase }, { on := 10, ground := Ground.phase }, { on := 11, ground := Ground.phase }, { on := 12, ground := Ground.phase }, { on := 13, ground := Ground.phase }, { on := 14, ground := Ground.phase }], guard := none }) (by kernel_rfl) rfl (fun K hK => ?_)
            go_simp
            refine hK.out _ _ (fun h => absurd h (by decide)) ?_
            clear hK
            try simp only [Act.put]
            refine wpAnyT_done (by kernel_rfl) ?_ _
            clear DB SB MP RR
            go_wp2_with fail
            go_meet
            exact FP.out
        · skip
          go_simp
          obtain ⟨V119, hW⟩ : ∃ V119, V82.alloc mbox = V119 := ⟨_, rfl⟩
          obtain ⟨b, sz119⟩ := alo1 V82 mbox
          rw [hW] at b sz119
          replace GB := hid (below_step GB.out b)
          have SB : Hid (w13.heap.size ≤ V82.heap.size) := RR.out.ty.1
          have DB : Hid (Cel V119 V82.heap.size 24 [.int .i64 0, .int .i64 0, .slice none 0 0]) := by unfold Hid; rw [← hW]; exact Cel.new V82 _ _
          clear sz119
          replace C3 := hid (cnow b C3.out)
          replace RR := hid (RR.out.now b)
          rw [hW]
          clear hW b
          refine hK.out _ _ (fun _ => KX.out _ RR.out.b0) ?_
          clear hK
          try simp only [Act.put]
          refine wpAnyT_two (i := 4) (j := 7) (oi := { dst := some 147, op := Op.call { callee := Callee.builtin Builtin.append, args := #[Operand.tmp 144, Operand.tmp 146], argTypes := #[38, 38] }, type := 38, pos := "outright.go:124", after := #[{ on := 1, ground := Ground.data }, { on := 3, ground := Ground.data }], guard := none }) (oj := { dst := some 150, op := Op.buildSlice 38 1 #[(0, Operand.tmp 149)], type := 38, pos := "outright.go:124", after := #[{ on := 6, ground := Ground.data }], guard := none }) (by kernel_rfl) rfl rfl (fun K hK => ?_) (fun K hK => ?_)
          · skip
            refine step_append_ivs V119 rfl (.tmp 144) (.tmp 146) rfl W0.heap.size (.slice ar rl capr) rs i rfl RR.out.r D81.heap.size rfl C3.out HLR.out RR.out.b0.size ?_
            intro g1 l1 cap1 w120 hl1 hI hg hb
            replace DB := hid (DB.out.ty13 (Ty.grown RR.out.r hg.out) (by decide))
            replace RR := hid (RR.out.addR HW0.out hI.out hg.out hb.out)
            replace GB := hid (Below.refl w120.heap.size w120)
            clear hI hg hb C3 hl1
            refine hK.out _ _ (fun _ => KX.out _ RR.out.b0) ?_
            clear hK
            refine wpAnyT_one (i := 7) (o := { dst := some 150, op := Op.buildSlice 38 1 #[(0, Operand.tmp 149)], type := 38, pos := "outright.go:124", after := #[{ on := 6, ground := Ground.data }], guard := none }) (by kernel_rfl) rfl (fun K hK => ?_)
            go_simp
            have SC7 : Hid (w13.heap.size ≤ w120.heap.size) := RR.out.ty.1
            obtain ⟨V121, hW⟩ : ∃ V121, w120.alloc (.cells #[.int .i64 (j : Int)] 3) = V121 := ⟨_, rfl⟩
            obtain ⟨b, sz121⟩ := alo1 w120 (.cells #[.int .i64 (j : Int)] 3)
            rw [hW] at b sz121
            have C7 : Hid (V121.cell? ⟨w120.heap.size, 0, none⟩ = some (.int .i64 (j : Int))) := by unfold Hid; rw [← hW]; exact (Cel.new w120 3 [.int .i64 (j : Int)]).at (i := 0) rfl
            replace GB := hid (below_step GB.out b)
            replace DB := hid (DB.out.step b)
            replace RR := hid (RR.out.now b)
            rw [hW]
            clear hW b sz121
            refine hK.out _ _ (fun _ => KX.out _ RR.out.b0) ?_
            clear hK
            try simp only [Act.put]
            refine wpAnyT_one (i := 8) (o := { dst := some 151, op := Op.call { callee := Callee.builtin Builtin.append, args := #[Operand.tmp 148, Operand.tmp 150], argTypes := #[38, 38] }, type := 38, pos := "outright.go:124", after := #[{ on := 5, ground := Ground.data }, { on := 7, ground := Ground.data }, { on := 4, ground := Ground.chain }], guard := none }) (by kernel_rfl) rfl (fun K hK => ?_)
            refine step_append_ivs V121 rfl (.tmp 148) (.tmp 150) rfl W0.heap.size (.slice ac rl capc) sc j rfl RR.out.c w120.heap.size rfl C7.out HLC.out RR.out.b0.size ?_
            intro g2 l2 cap2 w122 hl2 hI hg hb
            replace DB := hid (DB.out.ty13 (Ty.grown RR.out.c hg.out) (by decide))
            replace RR := hid (RR.out.addC HW0.out hI.out hg.out hb.out)
            replace GB := hid (Below.refl w122.heap.size w122)
            clear hI hg hb C7 hl2
            refine hK.out _ _ (fun _ => KX.out _ RR.out.b0) ?_
            clear hK
            refine wpAnyT_one (i := 9) (o := { dst := some 152, op := Op.call { callee := Callee.value (Operand.func 14), args := #[Operand.tmp 143, Operand.tmp 147, Operand.tmp 151], argTypes := #[24, 38, 38] }, type := 36, pos := "outright.go:124", after := #[{ on := 0, ground := Ground.data }, { on := 4, ground := Ground.data }, { on := 8, ground := Ground.data }, { on := 8, ground := Ground.chain }], guard := none }) (by kernel_rfl) rfl (fun K hK => ?_)
            go_simp
            go_at_call 14
            refine (pick_yes (M0.out.now RR.out.b0) (RR.out.r.in9 (by rw [HL1.out]; omega)) (RR.out.c.in9 (by rw [HL2.out]; omega)) HB1.out HB2.out (by rw [HL1.out]; omega) (by rw [HL2.out]; omega)).mono ?_
            rintro e w123 ⟨vp, rfl, mp, b⟩
            have lz123 := (show Below _ _ _ from b).size
            replace GB := hid (below_step GB.out b)
            rw [HL1.out, HL2.out] at mp
            obtain ⟨ap2, qp2, hvp, -, -⟩ := mp.mx.form
            obtain ⟨lp2, hlp⟩ : ∃ lp2, kk * kk = lp2 := ⟨_, rfl⟩
            rw [hlp] at hvp
            subst hvp
            have MP := hid mp.mx
            clear mp hlp
            replace DB := hid (DB.out.step b)
            replace RR := hid (RR.out.now b)
            clear b
            refine hK.out _ _ (fun _ => KX.out _ RR.out.b0) ?_
            clear hK
            refine wpAnyT_take (i := 10) (oi := { dst := some 142, op := Op.move (Operand.tmp 152), type := 36, pos := "outright.go:124", after := #[{ on := 9, ground := Ground.data }], guard := none }) (v := (.tuple #[(.agg #[.int .i64 (kk : Int), .int .i64 (kk : Int), .slice ap2 lp2 qp2]), (.int .i64 0)])) rfl (by kernel_rfl) (fun _ _ _ h => h) (Or.inl ⟨by rfl, ?_⟩) (KX.out _ RR.out.b0) ?_
            · intro w hSw
              (try dsimp only at hSw)
              go_simp
            simp only [Act.put, List.setIfInBounds_toArray, List.set_cons_zero, List.set_cons_succ]
            refine wpAnyT_take (i := 11) (oi := { dst := some 153, op := Op.extract (Operand.tmp 142) 0, type := 24, pos := "outright.go:124", after := #[{ on := 10, ground := Ground.data }], guard := none }) (v := (.agg #[.int .i64 (kk : Int), .int .i64 (kk : Int), .slice ap2 lp2 qp2])) rfl (by kernel_rfl) (fun _ _ _ h => h) (Or.inl ⟨by rfl, ?_⟩) (KX.out _ RR.out.b0) ?_
            · intro w hSw
              (try dsimp only at hSw)
              go_simp
            simp only [Act.put, List.setIfInBounds_toArray, List.set_cons_zero, List.set_cons_succ]
            refine wpAnyT_take (i := 12) (oi := { dst := some 154, op := Op.extract (Operand.tmp 142) 1, type := 35, pos := "outright.go:124", after := #[{ on := 10, ground := Ground.data }, { on := 14, ground := Ground.gcOnly Departure.lateStores }], guard := none }) (v := (.int .i64 0)) rfl (by kernel_rfl) (fun _ _ _ h => h) (Or.inl ⟨by rfl, ?_⟩) (KX.out _ RR.out.b0) ?_
            · intro w hSw
              (try dsimp only at hSw)
              go_simp
            simp only [Act.put, List.setIfInBounds_toArray, List.set_cons_zero, List.set_cons_succ]
            refine wpAnyT_one (i := 14) (o := { dst := none, op := Op.store 24 (Operand.tmp 16) (Operand.tmp 153), type := 0, pos := "outright.go:124", after := #[{ on := 13, ground := Ground.data }, { on := 11, ground := Ground.data }, { on := 9, ground := Ground.chain }, { on := 0, ground := Ground.phase }, { on := 1, ground := Ground.phase }, { on := 2, ground := Ground.phase }, { on := 3, ground := Ground.phase }, { on := 4, ground := Ground.phase }, { on := 5, ground := Ground.phase }, { on := 6, ground := Ground.phase }, { on := 7, ground := Ground.phase }, { on := 8, ground := Ground.phase }, { on := 9, ground := Ground.phase }, { on := 10, ground := Ground.phase }, { on := 11, ground := Ground.phase }, { on := 12, ground := Ground.textOnly Departure.lateStores }, { on := 13, ground := Ground.phase }], guard := none }) (by kernel_rfl) rfl (fun K hK => ?_)
            have e0 := DB.out.at (i := 0) rfl
            have e1 := DB.out.at (i := 1) rfl
            have e2 := DB.out.at (i := 2) rfl
            have e3 := DB.out.fz 0
            have e4 := DB.out.fz 1
            have e5 := DB.out.fz 2
            go_simp
            clear e0 e1 e2 e3 e4 e5
            obtain ⟨V124, hW⟩ : ∃ V124, (((w123.setCell ⟨V82.heap.size, 0, none⟩ (.int .i64 (kk : Int))).setCell ⟨V82.heap.size, 1, none⟩ (.int .i64 (kk : Int))).setCell ⟨V82.heap.size, 2, none⟩ (.slice ap2 lp2 qp2)) = V124 := ⟨_, rfl⟩
            have FP : Hid (PkN w w13 V124 (.pointer (some ⟨V82.heap.size, 0, none⟩)) (.int .i64 0) kk (pickL r c xs (rs ++ [i]) (sc ++ [j]))) := by
              unfold Hid; rw [← hW]
              exact pkn_put DB.out MP.out RR.out.bw RR.out.ty SB.out HWW.out
            replace RR : Hid (B15 W0 V124) := by
              unfold Hid; rw [← hW]
              have q := Nat.le_trans HW2.out SB.out
              exact ⟨bset (bset (bset RR.out.b0 q) q) q⟩
            clear GB
            rw [hW]
            clear hW
            refine hK.out _ _ (fun _ => KX.out _ RR.out.b0) ?_
            clear hK
            try simp only [Act.put]
            refine wpAnyT_one (i := 15) (o := { dst := some 10, op := Op.assign (Operand.tmp 154), type := 35, pos := "outright.go:124", after := #[{ on := 12, ground := Ground.data }, { on := 14, ground := Ground.chain }, { on := 0, ground := Ground.phase }, { on := 1, ground := Ground.phase }, { on := 2, ground := Ground.phase }, { on := 3, ground := Ground.phase }, { on := 4, ground := Ground.phase }, { on := 5, ground := Ground.phase }, { on := 6, ground := Ground.phase }, { on := 7, ground := Ground.phase }, { on := 8, ground := Ground.phase }, { on := 9, ground := Ground.phase }, { on := 10, ground := Ground.phase }, { on := 11, ground := Ground.phase }, { on := 12, ground := Ground.phase }, { on := 13, ground := Ground.phase }, { on := 14, ground := Ground.phase }], guard := none }) (by kernel_rfl) rfl (fun K hK => ?_)
            go_simp
            refine hK.out _ _ (fun h => absurd h (by decide)) ?_
            clear hK
            try simp only [Act.put]
            refine wpAnyT_done (by kernel_rfl) ?_ _
            clear DB SB MP RR
            go_wp2_with fail
            go_meet
            exact FP.out
          · skip
            go_simp
            have SC7 : Hid (w13.heap.size ≤ V119.heap.size) := RR.out.ty.1
            obtain ⟨V125, hW⟩ : ∃ V125, V119.alloc (.cells #[.int .i64 (j : Int)] 3) = V125 := ⟨_, rfl⟩
            obtain ⟨b, sz125⟩ := alo1 V119 (.cells #[.int .i64 (j : Int)] 3)
            rw [hW] at b sz125
            have C7 : Hid (V125.cell? ⟨V119.heap.size, 0, none⟩ = some (.int .i64 (j : Int))) := by unfold Hid; rw [← hW]; exact (Cel.new V119 3 [.int .i64 (j : Int)]).at (i := 0) rfl
            replace GB := hid (below_step GB.out b)
            replace C3 := hid (cnow b C3.out)
            replace DB := hid (DB.out.step b)
            replace RR := hid (RR.out.now b)
            rw [hW]
            clear hW b sz125
            refine hK.out _ _ (fun _ => KX.out _ RR.out.b0) ?_
            clear hK
            try simp only [Act.put]
            refine wpAnyT_one (i := 4) (o := { dst := some 147, op := Op.call { callee := Callee.builtin Builtin.append, args := #[Operand.tmp 144, Operand.tmp 146], argTypes := #[38, 38] }, type := 38, pos := "outright.go:124", after := #[{ on := 1, ground := Ground.data }, { on := 3, ground := Ground.data }], guard := none }) (by kernel_rfl) rfl (fun K hK => ?_)
            refine step_append_ivs V125 rfl (.tmp 144) (.tmp 146) rfl W0.heap.size (.slice ar rl capr) rs i rfl RR.out.r D81.heap.size rfl C3.out HLR.out RR.out.b0.size ?_
            intro g1 l1 cap1 w126 hl1 hI hg hb
            replace C7 := hid (cell_grown13 hg.out HVR.out SC7.out C7.out)
            replace DB := hid (DB.out.ty13 (Ty.grown RR.out.r hg.out) (by decide))
            replace RR := hid (RR.out.addR HW0.out hI.out hg.out hb.out)
            replace GB := hid (Below.refl w126.heap.size w126)
            clear hI hg hb C3 hl1
            refine hK.out _ _ (fun _ => KX.out _ RR.out.b0) ?_
            clear hK
            refine wpAnyT_one (i := 8) (o := { dst := some 151, op := Op.call { callee := Callee.builtin Builtin.append, args := #[Operand.tmp 148, Operand.tmp 150], argTypes := #[38, 38] }, type := 38, pos := "outright.go:124", after := #[{ on := 5, ground := Ground.data }, { on := 7, ground := Ground.data }, { on := 4, ground := Ground.chain }], guard := none }) (by kernel_rfl) rfl (fun K hK => ?_)
            refine step_append_ivs w126 rfl (.tmp 148) (.tmp 150) rfl W0.heap.size (.slice ac rl capc) sc j rfl RR.out.c V119.heap.size rfl C7.out HLC.out RR.out.b0.size ?_
            intro g2 l2 cap2 w127 hl2 hI hg hb
            replace DB := hid (DB.out.ty13 (Ty.grown RR.out.c hg.out) (by decide))
            replace RR := hid (RR.out.addC HW0.out hI.out hg.out hb.out)
            replace GB := hid (Below.refl w127.heap.size w127)
            clear hI hg hb C7 hl2
            refine hK.out _ _ (fun _ => KX.out _ RR.out.b0) ?_
            clear hK
            refine wpAnyT_one (i := 9) (o := { dst := some 152, op := Op.call { callee := Callee.value (Operand.func 14), args := #[Operand.tmp 143, Operand.tmp 147, Operand.tmp 151], argTypes := #[24, 38, 38] }, type := 36, pos := "outright.go:124", after := #[{ on := 0, ground := Ground.data }, { on := 4, ground := Ground.data }, { on := 8, ground := Ground.data }, { on := 8, ground := Ground.chain }], guard := none }) (by kernel_rfl) rfl (fun K hK => ?_)
            go_simp
            go_at_call 14
            refine (pick_yes (M0.out.now RR.out.b0) (RR.out.r.in9 (by rw [HL1.out]; omega)) (RR.out.c.in9 (by rw [HL2.out]; omega)) HB1.out HB2.out (by rw [HL1.out]; omega) (by rw [HL2.out]; omega)).mono ?_
            rintro e w128 ⟨vp, rfl, mp, b⟩
            have lz128 := (show Below _ _ _ from b).size
            replace GB := hid (below_step GB.out b)
            rw [HL1.out, HL2.out] at mp
            obtain ⟨ap2, qp2, hvp, -, -⟩ := mp.mx.form
            obtain ⟨lp2, hlp⟩ : ∃ lp2, kk * kk = lp2 := ⟨_, rfl⟩
            rw [hlp] at hvp
            subst hvp
            have MP := hid mp.mx
            clear mp hlp
            replace DB := hid (DB.out.step b)
            replace RR := hid (RR.out.now b)
            clear b
            refine hK.out _ _ (fun _ => KX.out _ RR.out.b0) ?_
            clear hK
            refine wpAnyT_take (i := 10) (oi := { dst := some 142, op := Op.move (Operand.tmp 152), type := 36, pos := "outright.go:124", after := #[{ on := 9, ground := Ground.data }], guard := none }) (v := (.tuple #[(.agg #[.int .i64 (kk : Int), .int .i64 (kk : Int), .slice ap2 lp2 qp2]), (.int .i64 0)])) rfl (by kernel_rfl) (fun _ _ _ h => h) (Or.inl ⟨by rfl, ?_⟩) (KX.out _ RR.out.b0) ?_
            · intro w hSw
              (try dsimp only at hSw)
              go_simp
            simp only [Act.put, List.setIfInBounds_toArray, List.set_cons_zero, List.set_cons_succ]
            refine wpAnyT_take (i := 11) (oi := { dst := some 153, op := Op.extract (Operand.tmp 142) 0, type := 24, pos := "outright.go:124", after := #[{ on := 10, ground := Ground.data }], guard := none }) (v := (.agg #[.int .i64 (kk : Int), .int .i64 (kk : Int), .slice ap2 lp2 qp2])) rfl (by kernel_rfl) (fun _ _ _ h => h) (Or.inl ⟨by rfl, ?_⟩) (KX.out _ RR.out.b0) ?_
            · intro w hSw
              (try dsimp only at hSw)
              go_simp
            simp only [Act.put, List.setIfInBounds_toArray, List.set_cons_zero, List.set_cons_succ]
            refine wpAnyT_take (i := 12) (oi := { dst := some 154, op := Op.extract (Operand.tmp 142) 1, type := 35, pos := "outright.go:124", after := #[{ on := 10, ground := Ground.data }, { on := 14, ground := Ground.gcOnly Departure.lateStores }], guard := none }) (v := (.int .i64 0)) rfl (by kernel_rfl) (fun _ _ _ h => h) (Or.inl ⟨by rfl, ?_⟩) (KX.out _ RR.out.b0) ?_
            · intro w hSw
              (try dsimp only at hSw)
              go_simp
            simp only [Act.put, List.setIfInBounds_toArray, List.set_cons_zero, List.set_cons_succ]
            refine wpAnyT_one (i := 14) (o := { dst := none, op := Op.store 24 (Operand.tmp 16) (Operand.tmp 153), type := 0, pos := "outright.go:124", after := #[{ on := 13, ground := Ground.data }, { on := 11, ground := Ground.data }, { on := 9, ground := Ground.chain }, { on := 0, ground := Ground.phase }, { on := 1, ground := Ground.phase }, { on := 2, ground := Ground.phase }, { on := 3, ground := Ground.phase }, { on := 4, ground := Ground.phase }, { on := 5, ground := Ground.phase }, { on := 6, ground := Ground.phase }, { on := 7, ground := Ground.phase }, { on := 8, ground := Ground.phase }, { on := 9, ground := Ground.phase }, { on := 10, ground := Ground.phase }, { on := 11, ground := Ground.phase }, { on := 12, ground := Ground.textOnly Departure.lateStores }, { on := 13, ground := Ground.phase }], guard := none }) (by kernel_rfl) rfl (fun K hK => ?_)
            have e0 := DB.out.at (i := 0) rfl
            have e1 := DB.out.at (i := 1) rfl
            have e2 := DB.out.at (i := 2) rfl
            have e3 := DB.out.fz 0
            have e4 := DB.out.fz 1
            have e5 := DB.out.fz 2
            go_simp
            clear e0 e1 e2 e3 e4 e5
            obtain ⟨V129, hW⟩ : ∃ V129, (((w128.setCell ⟨V82.heap.size, 0, none⟩ (.int .i64 (kk : Int))).setCell ⟨V82.heap.size, 1, none⟩ (.int .i64 (kk : Int))).setCell ⟨V82.heap.size, 2, none⟩ (.slice ap2 lp2 qp2)) = V129 := ⟨_, rfl⟩
            have FP : Hid (PkN w w13 V129 (.pointer (some ⟨V82.heap.size, 0, none⟩)) (.int .i64 0) kk (pickL r c xs (rs ++ [i]) (sc ++ [j]))) := by
              unfold Hid; rw [← hW]
              exact pkn_put DB.out MP.out RR.out.bw RR.out.ty SB.out HWW.out
            replace RR : Hid (B15 W0 V129) := by
              unfold Hid; rw [← hW]
              have q := Nat.le_trans HW2.out SB.out
              exact ⟨bset (bset (bset RR.out.b0 q) q) q⟩
            clear GB
            rw [hW]
            clear hW
            refine hK.out _ _ (fun _ => KX.out _ RR.out.b0) ?_
            clear hK
            try simp only [Act.put]
            refine wpAnyT_one (i := 15) (o := { dst := some 10, op := Op.assign (Operand.tmp 154), type := 35, pos := "outright.go:124", after := #[{ on := 12, ground := Ground.data }, { on := 14, ground := Ground.chain }, { on := 0, ground := Ground.phase }, { on := 1, ground := Ground.phase }, { on := 2, ground := Ground.phase }, { on := 3, ground := Ground.phase }, { on := 4, ground := Ground.phase }, { on := 5, ground := Ground.phase }, { on := 6, ground := Ground.phase }, { on := 7, ground := Ground.phase }, { on := 8, ground := Ground.phase }, { on := 9, ground := Ground.phase }, { on := 10, ground := Ground.phase }, { on := 11, ground := Ground.phase }, { on := 12, ground := Ground.phase }, { on := 13, ground := Ground.phase }, { on := 14, ground := Ground.phase }], guard := none }) (by kernel_rfl) rfl (fun K hK => ?_)
            go_simp
            refine hK.out _ _ (fun h => absurd h (by decide)) ?_
            clear hK
            try simp only [Act.put]
            refine wpAnyT_done (by kernel_rfl) ?_ _
            clear DB SB MP RR
            go_wp2_with fail
            go_meet
            exact FP.out
      · skip
        go_simp
        have SC7 : Hid (w13.heap.size ≤ D81.heap.size) := RR.out.ty.1
        obtain ⟨V130, hW⟩ : ∃ V130, D81.alloc (.cells #[.int .i64 (j : Int)] 3) = V130 := ⟨_, rfl⟩
        obtain ⟨b, sz130⟩ := alo1 D81 (.cells #[.int .i64 (j : Int)] 3)
        rw [hW] at b sz130
        have C7 : Hid (V130.cell? ⟨D81.heap.size, 0, none⟩ = some (.int .i64 (j : Int))) := by unfold Hid; rw [← hW]; exact (Cel.new D81 3 [.int .i64 (j : Int)]).at (i := 0) rfl
        replace GB := hid (below_step GB.out b)
        replace RR := hid (RR.out.now b)
        rw [hW]
        clear hW b sz130
        refine hK.out _ _ (fun _ => KX.out _ RR.out.b0) ?_
        clear hK
        try simp only [Act.put]
        refine wpAnyT_two (i := 3) (j := 13) (oi := { dst := some 146, op := Op.buildSlice 38 1 #[(0, Operand.tmp 145)], type := 38, pos := "outright.go:124", after := #[{ on := 2, ground := Ground.data }], guard := none }) (oj := { dst := some 16, op := Op.alloc 24, type := 0, pos := "outright.go:124", after := #[], guard := none }) (by kernel_rfl) rfl rfl (fun K hK => ?_) (fun K hK => ?_)
        · skip
          go_simp
          have SC3 : Hid (w13.heap.size ≤ V130.heap.size) := RR.out.ty.1
          obtain ⟨V131, hW⟩ : ∃ V131, V130.alloc (.cells #[.int .i64 (i : Int)] 3) = V131 := ⟨_, rfl⟩
          obtain ⟨b, sz131⟩ := alo1 V130 (.cells #[.int .i64 (i : Int)] 3)
          rw [hW] at b sz131
          have C3 : Hid (V131.cell? ⟨V130.heap.size, 0, none⟩ = some (.int .i64 (i : Int))) := by unfold Hid; rw [← hW]; exact (Cel.new V130 3 [.int .i64 (i : Int)]).at (i := 0) rfl
          replace GB := hid (below_step GB.out b)
          replace C7 := hid (cnow b C7.out)
          replace RR := hid (RR.out.now b)
          rw [hW]
          clear hW b sz131
          refine hK.out _ _ (fun _ => KX.out _ RR.out.b0) ?_
          clear hK
          try simp only [Act.put]
          refine wpAnyT_two (i := 4) (j := 13) (oi := { dst := some 147, op := Op.call { callee := Callee.builtin Builtin.append, args := #[Operand.tmp 144, Operand.tmp 146], argTypes := #[38, 38] }, type := 38, pos := "outright.go:124", after := #[{ on := 1, ground := Ground.data }, { on := 3, ground := Ground.data }], guard := none }) (oj := { dst := some 16, op := Op.alloc 24, type := 0, pos := "outright.go:124", after := #[], guard := none }) (by kernel_rfl) rfl rfl (fun K hK => ?_) (fun K hK => ?_)
          · skip
            refine step_append_ivs V131 rfl (.tmp 144) (.tmp 146) rfl W0.heap.size (.slice ar rl capr) rs i rfl RR.out.r V130.heap.size rfl C3.out HLR.out RR.out.b0.size ?_
            intro g1 l1 cap1 w132 hl1 hI hg hb
            replace C7 := hid (cell_grown13 hg.out HVR.out SC7.out C7.out)
            replace RR := hid (RR.out.addR HW0.out hI.out hg.out hb.out)
            replace GB := hid (Below.refl w132.heap.size w132)
            clear hI hg hb C3 hl1
            refine hK.out _ _ (fun _ => KX.out _ RR.out.b0) ?_
            clear hK
            refine wpAnyT_two (i := 8) (j := 13) (oi := { dst := some 151, op := Op.call { callee := Callee.builtin Builtin.append, args := #[Operand.tmp 148, Operand.tmp 150], argTypes := #[38, 38] }, type := 38, pos := "outright.go:124", after := #[{ on := 5, ground := Ground.data }, { on := 7, ground := Ground.data }, { on := 4, ground := Ground.chain }], guard := none }) (oj := { dst := some 16, op := Op.alloc 24, type := 0, pos := "outright.go:124", after := #[], guard := none }) (by kernel_rfl) rfl rfl (fun K hK => ?_) (fun K hK => ?_)
            · skip
              refine step_append_ivs w132 rfl (.tmp 148) (.tmp 150) rfl W0.heap.size (.slice ac rl capc) sc j rfl RR.out.c D81.heap.size rfl C7.out HLC.out RR.out.b0.size ?_
              intro g2 l2 cap2 w133 hl2 hI hg hb
              replace RR := hid (RR.out.addC HW0.out hI.out hg.out hb.out)
              replace GB := hid (Below.refl w133.heap.size w133)
              clear hI hg hb C7 hl2
              refine hK.out _ _ (fun _ => KX.out _ RR.out.b0) ?_
              clear hK
              refine wpAnyT_two (i := 9) (j := 13) (oi := { dst := some 152, op := Op.call { callee := Callee.value (Operand.func 14), args := #[Operand.tmp 143, Operand.tmp 147, Operand.tmp 151], argTypes := #[24, 38, 38] }, type := 36, pos := "outright.go:124", after := #[{ on := 0, ground := Ground.data }, { on := 4, ground := Ground.data }, { on := 8, ground := Ground.data }, { on := 8, ground := Ground.chain }], guard := none }) (oj := { dst := some 16, op := Op.alloc 24, type := 0, pos := "outright.go:124", after := #[], guard := none }) (by kernel_rfl) rfl rfl (fun K hK => ?_) (fun K hK => ?_)
              · skip
                go_simp
                go_at_call 14
                refine (pick_yes (M0.out.now RR.out.b0) (RR.out.r.in9 (by rw [HL1.out]; omega)) (RR.out.c.in9 (by rw [HL2.out]; omega)) HB1.out HB2.out (by rw [HL1.out]; omega) (by rw [HL2.out]; omega)).mono ?_
                rintro e w134 ⟨vp, rfl, mp, b⟩
                have lz134 := (show Below _ _ _ from b).size
                replace GB := hid (below_step GB.out b)
                rw [HL1.out, HL2.out] at mp
                obtain ⟨ap2, qp2, hvp, -, -⟩ := mp.mx.form
                obtain ⟨lp2, hlp⟩ : ∃ lp2, kk * kk = lp2 := ⟨_, rfl⟩
                rw [hlp] at hvp
                subst hvp
                have MP := hid mp.mx
                clear mp hlp
                replace RR := hid (RR.out.now b)
                clear b
                refine hK.out _ _ (fun _ => KX.out _ RR.out.b0) ?_
                clear hK
                refine wpAnyT_take (i := 10) (oi := { dst := some 142, op := Op.move (Operand.tmp 152), type := 36, pos := "outright.go:124", after := #[{ on := 9, ground := Ground.data }], guard := none }) (v := (.tuple #[(.agg #[.int .i64 (kk : Int), .int .i64 (kk : Int), .slice ap2 lp2 qp2]), (.int .i64 0)])) rfl (by kernel_rfl) (fun _ _ _ h => h) (Or.inl ⟨by rfl, ?_⟩) (KX.out _ RR.out.b0) ?_
                · intro w hSw
                  (try dsimp only at hSw)
                  go_simp
                simp only [Act.put, List.setIfInBounds_toArray, List.set_cons_zero, List.set_cons_succ]
                refine wpAnyT_take (i := 11) (oi := { dst := some 153, op := Op.extract (Operand.tmp 142) 0, type := 24, pos := "outright.go:124", after := #[{ on := 10, ground := Ground.data }], guard := none }) (v := (.agg #[.int .i64 (kk : Int), .int .i64 (kk : Int), .slice ap2 lp2 qp2])) rfl (by kernel_rfl) (fun _ _ _ h => h) (Or.inl ⟨by rfl, ?_⟩) (KX.out _ RR.out.b0) ?_
                · intro w hSw
                  (try dsimp only at hSw)
                  go_simp
                simp only [Act.put, List.setIfInBounds_toArray, List.set_cons_zero, List.set_cons_succ]
                refine wpAnyT_take (i := 12) (oi := { dst := some 154, op := Op.extract (Operand.tmp 142) 1, type := 35, pos := "outright.go:124", after := #[{ on := 10, ground := Ground.data }, { on := 14, ground := Ground.gcOnly Departure.lateStores }], guard := none }) (v := (.int .i64 0)) rfl (by kernel_rfl) (fun _ _ _ h => h) (Or.inl ⟨by rfl, ?_⟩) (KX.out _ RR.out.b0) ?_
                · intro w hSw
                  (try dsimp only at hSw)
                  go_simp
                simp only [Act.put, List.setIfInBounds_toArray, List.set_cons_zero, List.set_cons_succ]
                refine wpAnyT_one (i := 13) (o := { dst := some 16, op := Op.alloc 24, type := 0, pos := "outright.go:124", after := #[], guard := none }) (by kernel_rfl) rfl (fun K hK => ?_)
                go_simp
                obtain ⟨V135, hW⟩ : ∃ V135, w134.alloc mbox = V135 := ⟨_, rfl⟩
                obtain ⟨b, sz135⟩ := alo1 w134 mbox
                rw [hW] at b sz135
                replace GB := hid (below_step GB.out b)
                have SB : Hid (w13.heap.size ≤ w134.heap.size) := RR.out.ty.1
                have DB : Hid (Cel V135 w134.heap.size 24 [.int .i64 0, .int .i64 0, .slice none 0 0]) := by unfold Hid; rw [← hW]; exact Cel.new w134 _ _
                clear sz135
                replace RR := hid (RR.out.now b)
                replace MP := hid (MP.out.now b)
                rw [hW]
                clear hW b
                refine hK.out _ _ (fun _ => KX.out _ RR.out.b0) ?_
                clear hK
                try simp only [Act.put]
                refine wpAnyT_one (i := 14) (o := { dst := none, op := Op.store 24 (Operand.tmp 16) (Operand.tmp 153), type := 0, pos := "outright.go:124", after := #[{ on := 13, ground := Ground.data }, { on := 11, ground := Ground.data }, { on := 9, ground := Ground.chain }, { on := 0, ground := Ground.phase }, { on := 1, ground := Ground.phase }, { on := 2, ground := Ground.phase }, { on := 3, ground := Ground.phase }, { on := 4, ground := Ground.phase }, { on := 5, ground := Ground.phase }, { on := 6, ground := Ground.phase }, { on := 7, ground := Ground.phase }, { on := 8, ground := Ground.phase }, { on := 9, ground := Ground.phase }, { on := 10, ground := Ground.phase }, { on := 11, ground := Ground.phase }, { on := 12, ground := Ground.textOnly Departure.lateStores }, { on := 13, ground := Ground.phase }], guard := none }) (by kernel_rfl) rfl (fun K hK => ?_)
                have e0 := DB.out.at (i := 0) rfl
                have e1 := DB.out.at (i := 1) rfl
                have e2 := DB.out.at (i := 2) rfl
                have e3 := DB.out.fz 0
                have e4 := DB.out.fz 1
                have e5 := DB.out.fz 2
                go_simp
                clear e0 e1 e2 e3 e4 e5
                obtain ⟨V136, hW⟩ : ∃ V136, (((V135.setCell ⟨w134.heap.size, 0, none⟩ (.int .i64 (kk : Int))).setCell ⟨w134.heap.size, 1, none⟩ (.int .i64 (kk : Int))).setCell ⟨w134.heap.size, 2, none⟩ (.slice ap2 lp2 qp2)) = V136 := ⟨_, rfl⟩
                have FP : Hid (PkN w w13 V136 (.pointer (some ⟨w134.heap.size, 0, none⟩)) (.int .i64 0) kk (pickL r c xs (rs ++ [i]) (sc ++ [j]))) := by
                  unfold Hid; rw [← hW]
                  exact pkn_put DB.out MP.out RR.out.bw RR.out.ty SB.out HWW.out
                replace RR : Hid (B15 W0 V136) := by
                  unfold Hid; rw [← hW]
                  have q := Nat.le_trans HW2.out SB.out
                  exact ⟨bset (bset (bset RR.out.b0 q) q) q⟩
                clear GB
                rw [hW]
                clear hW
                refine hK.out _ _ (fun _ => KX.out _ RR.out.b0) ?_
                clear hK
                try simp only [Act.put]
                refine wpAnyT_one (i := 15) (o := { dst := some 10, op := Op.assign (Operand.tmp 154), type := 35, pos := "outright.go:124", after := #[{ on := 12, ground := Ground.data }, { on := 14, ground := Ground.chain }, { on := 0, ground := Ground.phase }, { on := 1, ground := Ground.phase }, { on := 2, ground := Ground.phase }, { on := 3, ground := Ground.phase }, { on := 4, ground := Ground.phase }, { on := 5, ground := Ground.phase }, { on := 6, ground := Ground.phase }, { on := 7, ground := Ground.phase }, { on := 8, ground := Ground.phase }, { on := 9, ground := Ground.phase }, { on := 10, ground := Ground.phase }, { on := 11, ground := Ground.phase }, { on := 12, ground := Ground.phase }, { on := 13, ground := Ground.phase }, { on := 14, ground := Ground.phase }], guard := none }) (by kernel_rfl) rfl (fun K hK => ?_)
                go_simp
                refine hK.out _ _ (fun h => absurd h (by decide)) ?_
                clear hK
                try simp only [Act.put]
                refine wpAnyT_done (by kernel_rfl) ?_ _
                clear DB SB MP RR
                go_wp2_with fail
                go_meet
                exact FP.out
              · skip
                go_simp
                obtain ⟨V137, hW⟩ : ∃ V137, w133.alloc mbox = V137 := ⟨_, rfl⟩
                obtain ⟨b, sz137⟩ := alo1 w133 mbox
                rw [hW] at b sz137
                replace GB := hid (below_step GB.out b)
                have SB : Hid (w13.heap.size ≤ w133.heap.size) := RR.out.ty.1
                have DB : Hid (Cel V137 w133.heap.size 24 [.int .i64 0, .int .i64 0, .slice none 0 0]) := by unfold Hid; rw [← hW]; exact Cel.new w133 _ _
                clear sz137
                replace RR := hid (RR.out.now b)
                rw [hW]
                clear hW b
                refine hK.out _ _ (fun _ => KX.out _ RR.out.b0) ?_
                clear hK
                try simp only [Act.put]
                refine wpAnyT_one (i := 9) (o := { dst := some 152, op := Op.call { callee := Callee.value (Operand.func 14), args := #[Operand.tmp 143, Operand.tmp 147, Operand.tmp 151], argTypes := #[24, 38, 38] }, type := 36, pos := "outright.go:124", after := #[{ on := 0, ground := Ground.data }, { on := 4, ground := Ground.data }, { on := 8, ground := Ground.data }, { on := 8, ground := Ground.chain }], guard := none }) (by kernel_rfl) rfl (fun K hK => ?_)
                go_simp
                go_at_call 14
                refine (pick_yes (M0.out.now RR.out.b0) (RR.out.r.in9 (by rw [HL1.out]; omega)) (RR.out.c.in9 (by rw [HL2.out]; omega)) HB1.out HB2.out (by rw [HL1.out]; omega) (by rw [HL2.out]; omega)).mono ?_
                rintro e w138 ⟨vp, rfl, mp, b⟩
                have lz138 := (show Below _ _ _ from b).size
                replace GB := hid (below_step GB.out b)
                rw [HL1.out, HL2.out] at mp
                obtain ⟨ap2, qp2, hvp, -, -⟩ := mp.mx.form
                obtain ⟨lp2, hlp⟩ : ∃ lp2, kk * kk = lp2 := ⟨_, rfl⟩
                rw [hlp] at hvp
                subst hvp
                have MP := hid mp.mx
                clear mp hlp
                replace DB := hid (DB.out.step b)
                replace RR := hid (RR.out.now b)
                clear b
                refine hK.out _ _ (fun _ => KX.out _ RR.out.b0) ?_
                clear hK
                refine wpAnyT_take (i := 10) (oi := { dst := some 142, op := Op.move (Operand.tmp 152), type := 36, pos := "outright.go:124", after := #[{ on := 9, ground := Ground.data }], guard := none }) (v := (.tuple #[(.agg #[.int .i64 (kk : Int), .int .i64 (kk : Int), .slice ap2 lp2 qp2]), (.int .i64 0)])) rfl (by kernel_rfl) (fun _ _ _ h => h) (Or.inl ⟨by rfl, ?_⟩) (KX.out _ RR.out.b0) ?_
                · intro w hSw
                  (try dsimp only at hSw)
                  go_simp
                simp only [Act.put, List.setIfInBounds_toArray, List.set_cons_zero, List.set_cons_succ]
                refine wpAnyT_take (i := 11) (oi := { dst := some 153, op := Op.extract (Operand.tmp 142) 0, type := 24, pos := "outright.go:124", after := #[{ on := 10, ground := Ground.data }], guard := none }) (v := (.agg #[.int .i64 (kk : Int), .int .i64 (kk : Int), .slice ap2 lp2 qp2])) rfl (by kernel_rfl) (fun _ _ _ h => h) (Or.inl ⟨by rfl, ?_⟩) (KX.out _ RR.out.b0) ?_
                · intro w hSw
                  (try dsimp only at hSw)
                  go_simp
                simp only [Act.put, List.setIfInBounds_toArray, List.set_cons_zero, List.set_cons_succ]
                refine wpAnyT_take (i := 12) (oi := { dst := some 154, op := Op.extract (Operand.tmp 142) 1, type := 35, pos := "outright.go:124", after := #[{ on := 10, ground := Ground.data }, { on := 14, ground := Ground.gcOnly Departure.lateStores }], guard := none }) (v := (.int .i64 0)) rfl (by kernel_rfl) (fun _ _ _ h => h) (Or.inl ⟨by rfl, ?_⟩) (KX.out _ RR.out.b0) ?_
                · intro w hSw
                  (try dsimp only at hSw)
                  go_simp
                simp only [Act.put, List.setIfInBounds_toArray, List.set_cons_zero, List.set_cons_succ]
                refine wpAnyT_one (i := 14) (o := { dst := none, op := Op.store 24 (Operand.tmp 16) (Operand.tmp 153), type := 0, pos := "outright.go:124", after := #[{ on := 13, ground := Ground.data }, { on := 11, ground := Ground.data }, { on := 9, ground := Ground.chain }, { on := 0, ground := Ground.phase }, { on := 1, ground := Ground.phase }, { on := 2, ground := Ground.phase }, { on := 3, ground := Ground.phase }, { on := 4, ground := Ground.phase }, { on := 5, ground := Ground.phase }, { on := 6, ground := Ground.phase }, { on := 7, ground := Ground.phase }, { on := 8, ground := Ground.phase }, { on := 9, ground := Ground.phase }, { on := 10, ground := Ground.phase }, { on := 11, ground := Ground.phase }, { on := 12, ground := Ground.textOnly Departure.lateStores }, { on := 13, ground := Ground.phase }], guard := none }) (by kernel_rfl) rfl (fun K hK => ?_)
                have e0 := DB.out.at (i := 0) rfl
                have e1 := DB.out.at (i := 1) rfl
                have e2 := DB.out.at (i := 2) rfl
                have e3 := DB.out.fz 0
                have e4 := DB.out.fz 1
                have e5 := DB.out.fz 2
                go_simp
                clear e0 e1 e2 e3 e4 e5
                obtain ⟨V139, hW⟩ : ∃ V139, (((w138.setCell ⟨w133.heap.size, 0, none⟩ (.int .i64 (kk : Int))).setCell ⟨w133.heap.size, 1, none⟩ (.int .i64 (kk : Int))).setCell ⟨w133.heap.size, 2, none⟩ (.slice ap2 lp2 qp2)) = V139 := ⟨_, rfl⟩
                have FP : Hid (PkN w w13 V139 (.pointer (some ⟨w133.heap.size, 0, none⟩)) (.int .i64 0) kk (pickL r c xs (rs ++ [i]) (sc ++ [j]))) := by
                  unfold Hid; rw [← hW]
                  exact pkn_put DB.out MP.out RR.out.bw RR.out.ty SB.out HWW.out
                replace RR : Hid (B15 W0 V139) := by
                  unfold Hid; rw [← hW]
                  have q := Nat.le_trans HW2.out SB.out
                  exact ⟨bset (bset (bset RR.out.b0 q) q) q⟩
                clear GB
                rw [hW]
                clear hW
                refine hK.out _ _ (fun _ => KX.out _ RR.out.b0) ?_
                clear hK
                try simp only [Act.put]
                refine wpAnyT_one (i := 15) (o := { dst := some 10, op := Op.assign (Operand.tmp 154), type := 35, pos := "outright.go:124", after := #[{ on := 12, ground := Ground.data }, { on := 14, ground := Ground.chain }, { on := 0, ground := Ground.phase }, { on := 1, ground := Ground.phase }, { on := 2, ground := Ground.phase }, { on := 3, ground := Ground.phase }, { on := 4, ground := Ground.phase }, { on := 5, ground := Ground.phase }, { on := 6, ground := Ground.phase }, { on := 7, ground := Ground.phase }, { on := 8, ground := Ground.phase }, { on := 9, ground := Ground.phase }, { on := 10, ground := Ground.phase }, { on := 11, ground := Ground.phase }, { on := 12, ground := Ground.phase }, { on := 13, ground := Ground.phase }, { on := 14, ground := Ground.phase }], guard := none }) (by kernel_rfl) rfl (fun K hK => ?_)
                go_simp
                refine hK.out _ _ (fun h => absurd h (by decide)) ?_
                clear hK
                try simp only [Act.put]
                refine wpAnyT_done (by kernel_rfl) ?_ _
                clear DB SB MP RR
                go_wp2_with fail
                go_meet
                exact FP.out
            · skip
              go_simp
              obtain ⟨V140, hW⟩ : ∃ V140, w132.alloc mbox = V140 := ⟨_, rfl⟩
              obtain ⟨b, sz140⟩ := alo1 w132 mbox
              rw [hW] at b sz140
              replace GB := hid (below_step GB.out b)
              have SB : Hid (w13.heap.size ≤ w132.heap.size) := RR.out.ty.1
              have DB : Hid (Cel V140 w132.heap.size 24 [.int .i64 0, .int .i64 0, .slice none 0 0]) := by unfold Hid; rw [← hW]; exact Cel.new w132 _ _
              clear sz140
              replace C7 := hid (cnow b C7.out)
              replace RR := hid (RR.out.now b)
              rw [hW]
              clear hW b
              refine hK.out _ _ (fun _ => KX.out _ RR.out.b0) ?_
              clear hK
              try simp only [Act.put]
              refine wpAnyT_one (i := 8) (o := { dst := some 151, op := Op.call { callee := Callee.builtin Builtin.append, args := #[Operand.tmp 148, Operand.tmp 150], argTypes := #[38, 38] }, type := 38, pos := "outright.go:124", after := #[{ on := 5, ground := Ground.data }, { on := 7, ground := Ground.data }, { on := 4, ground := Ground.chain }], guard := none }) (by kernel_rfl) rfl (fun K hK => ?_)
              refine step_append_ivs V140 rfl (.tmp 148) (.tmp 150) rfl W0.heap.size (.slice ac rl capc) sc j rfl RR.out.c D81.heap.size rfl C7.out HLC.out RR.out.b0.size ?_
              intro g2 l2 cap2 w141 hl2 hI hg hb
              replace DB := hid (DB.out.ty13 (Ty.grown RR.out.c hg.out) (by decide))
              replace RR := hid (RR.out.addC HW0.out hI.out hg.out hb.out)
              replace GB := hid (Below.refl w141.heap.size w141)
              clear hI hg hb C7 hl2
              refine hK.out _ _ (fun _ => KX.out _ RR.out.b0) ?_
              clear hK
              refine wpAnyT_one (i := 9) (o := { dst := some 152, op := Op.call { callee := Callee.value (Operand.func 14), args := #[Operand.tmp 143, Operand.tmp 147, Operand.tmp 151], argTypes := #[24, 38, 38] }, type := 36, pos := "outright.go:124", after := #[{ on := 0, ground := Ground.data }, { on := 4, ground := Ground.data }, { on := 8, ground := Ground.data }, { on := 8, ground := Ground.chain }], guard := none }) (by kernel_rfl) rfl (fun K hK => ?_)
              go_simp
              go_at_call 14
              refine (pick_yes (M0.out.now RR.out.b0) (RR.out.r.in9 (by rw [HL1.out]; omega)) (RR.out.c.in9 (by rw [HL2.out]; omega)) HB1.out HB2.out (by rw [HL1.out]; omega) (by rw [HL2.out]; omega)).mono ?_
              rintro e w142 ⟨vp, rfl, mp, b⟩
              have lz142 := (show Below _ _ _ from b).size
              replace GB := hid (below_step GB.out b)
              rw [HL1.out, HL2.out] at mp
              obtain ⟨ap2, qp2, hvp, -, -⟩ := mp.mx.form
              obtain ⟨lp2, hlp⟩ : ∃ lp2, kk * kk = lp2 := ⟨_, rfl⟩
              rw [hlp] at hvp
              subst hvp
              have MP := hid mp.mx
              clear mp hlp
              replace DB := hid (DB.out.step b)
              replace RR := hid (RR.out.now b)
              clear b
              refine hK.out _ _ (fun _ => KX.out _ RR.out.b0) ?_
              clear hK
              refine wpAnyT_take (i := 10) (oi := { dst := some 142, op := Op.move (Operand.tmp 152), type := 36, pos := "outright.go:124", after := #[{ on := 9, ground := Ground.data }], guard := none }) (v := (.tuple #[(.agg #[.int .i64 (kk : Int), .int .i64 (kk : Int), .slice ap2 lp2 qp2]), (.int .i64 0)])) rfl (by kernel_rfl) (fun _ _ _ h => h) (Or.inl ⟨by rfl, ?_⟩) (KX.out _ RR.out.b0) ?_
              · intro w hSw
                (try dsimp only at hSw)
                go_simp
              simp only [Act.put, List.setIfInBounds_toArray, List.set_cons_zero, List.set_cons_succ]
              refine wpAnyT_take (i := 11) (oi := { dst := some 153, op := Op.extract (Operand.tmp 142) 0, type := 24, pos := "outright.go:124", after := #[{ on := 10, ground := Ground.data }], guard := none }) (v := (.agg #[.int .i64 (kk : Int), .int .i64 (kk : Int), .slice ap2 lp2 qp2])) rfl (by kernel_rfl) (fun _ _ _ h => h) (Or.inl ⟨by rfl, ?_⟩) (KX.out _ RR.out.b0) ?_
              · intro w hSw
                (try dsimp only at hSw)
                go_simp
              simp only [Act.put, List.setIfInBounds_toArray, List.set_cons_zero, List.set_cons_succ]
              refine wpAnyT_take (i := 12) (oi := { dst := some 154, op := Op.extract (Operand.tmp 142) 1, type := 35, pos := "outright.go:124", after := #[{ on := 10, ground := Ground.data }, { on := 14, ground := Ground.gcOnly Departure.lateStores }], guard := none }) (v := (.int .i64 0)) rfl (by kernel_rfl) (fun _ _ _ h => h) (Or.inl ⟨by rfl, ?_⟩) (KX.out _ RR.out.b0) ?_
              · intro w hSw
                (try dsimp only at hSw)
                go_simp
              simp only [Act.put, List.setIfInBounds_toArray, List.set_cons_zero, List.set_cons_succ]
              refine wpAnyT_one (i := 14) (o := { dst := none, op := Op.store 24 (Operand.tmp 16) (Operand.tmp 153), type := 0, pos := "outright.go:124", after := #[{ on := 13, ground := Ground.data }, { on := 11, ground := Ground.data }, { on := 9, ground := Ground.chain }, { on := 0, ground := Ground.phase }, { on := 1, ground := Ground.phase }, { on := 2, ground := Ground.phase }, { on := 3, ground := Ground.phase }, { on := 4, ground := Ground.phase }, { on := 5, ground := Ground.phase }, { on := 6, ground := Ground.phase }, { on := 7, ground := Ground.phase }, { on := 8, ground := Ground.phase }, { on := 9, ground := Ground.phase }, { on := 10, ground := Ground.phase }, { on := 11, ground := Ground.phase }, { on := 12, ground := Ground.textOnly Departure.lateStores }, { on := 13, ground := Ground.phase }], guard := none }) (by kernel_rfl) rfl (fun K hK => ?_)
              have e0 := DB.out.at (i := 0) rfl
              have e1 := DB.out.at (i := 1) rfl
              have e2 := DB.out.at (i := 2) rfl
              have e3 := DB.out.fz 0
              have e4 := DB.out.fz 1
              have e5 := DB.out.fz 2
              go_simp
              clear e0 e1 e2 e3 e4 e5
              obtain ⟨V143, hW⟩ : ∃ V143, (((w142.setCell ⟨w132.heap.size, 0, none⟩ (.int .i64 (kk : Int))).setCell ⟨w132.heap.size, 1, none⟩ (.int .i64 (kk : Int))).setCell ⟨w132.heap.size, 2, none⟩ (.slice ap2 lp2 qp2)) = V143 := ⟨_, rfl⟩
              have FP : Hid (PkN w w13 V143 (.pointer (some ⟨w132.heap.size, 0, none⟩)) (.int .i64 0) kk (pickL r c xs (rs ++ [i]) (sc ++ [j]))) := by
                unfold Hid; rw [← hW]
                exact pkn_put DB.out MP.out RR.out.bw RR.out.ty SB.out HWW.out
              replace RR : Hid (B15 W0 V143) := by
                unfold Hid; rw [← hW]
                have q := Nat.le_trans HW2.out SB.out
                exact ⟨bset (bset (bset RR.out.b0 q) q) q⟩
              clear GB
              rw [hW]
              clear hW
              refine hK.out _ _ (fun _ => KX.out _ RR.out.b0) ?_
              clear hK
              try simp only [Act.put]
              refine wpAnyT_one (i := 15) (o := { dst := some 10, op := Op.assign (Operand.tmp 154), type := 35, pos := "outright.go:124", after := #[{ on := 12, ground := Ground.data }, { on := 14, ground := Ground.chain }, { on := 0, ground := Ground.phase }, { on := 1, ground := Ground.phase }, { on := 2, ground := Ground.phase }, { on := 3, ground := Ground.phase }, { on := 4, ground := Ground.phase }, { on := 5, ground := Ground.phase }, { on := 6, ground := Ground.phase }, { on := 7, ground := Ground.phase }, { on := 8, ground := Ground.phase }, { on := 9, ground := Ground.phase }, { on := 10, ground := Ground.phase }, { on := 11, ground := Ground.phase }, { on := 12, ground := Ground.phase }, { on := 13, ground := Ground.phase }, { on := 14, ground := Ground.phase }], guard := none }) (by kernel_rfl) rfl (fun K hK => ?_)
              go_simp
              refine hK.out _ _ (fun h => absurd h (by decide)) ?_
              clear hK
              try simp only [Act.put]
              refine wpAnyT_done (by kernel_rfl) ?_ _
              clear DB SB MP RR
              go_wp2_with fail
              go_meet
              exact FP.out
          · skip
            go_simp
            obtain ⟨V144, hW⟩ : ∃ V144, V131.alloc mbox = V144 := ⟨_, rfl⟩
            obtain ⟨b, sz144⟩ := alo1 V131 mbox
            rw [hW] at b sz144
            replace GB := hid (below_step GB.out b)
            have SB : Hid (w13.heap.size ≤ V131.heap.size) := RR.out.ty.1
            have DB : Hid (Cel V144 V131.heap.size 24 [.int .i64 0, .int .i64 0, .slice none 0 0]) := by unfold Hid; rw [← hW]; exact Cel.new V131 _ _
            clear sz144
            replace C3 := hid (cnow b C3.out)
            replace C7 := hid (cnow b C7.out)
            replace RR := hid (RR.out.now b)
            rw [hW]
            clear hW b
            refine hK.out _ _ (fun _ => KX.out _ RR.out.b0) ?_
            clear hK
            try simp only [Act.put]
            refine wpAnyT_one (i := 4) (o := { dst := some 147, op := Op.call { callee := Callee.builtin Builtin.append, args := #[Operand.tmp 144, Operand.tmp 146], argTypes := #[38, 38] }, type := 38, pos := "outright.go:124", after := #[{ on := 1, ground := Ground.data }, { on := 3, ground := Ground.data }], guard := none }) (by kernel_rfl) rfl (fun K hK => ?_)
            refine step_append_ivs V144 rfl (.tmp 144) (.tmp 146) rfl W0.heap.size (.slice ar rl capr) rs i rfl RR.out.r V130.heap.size rfl C3.out HLR.out RR.out.b0.size ?_
            intro g1 l1 cap1 w145 hl1 hI hg hb
            replace C7 := hid (cell_grown13 hg.out HVR.out SC7.out C7.out)
            replace DB := hid (DB.out.ty13 (Ty.grown RR.out.r hg.out) (by decide))
            replace RR := hid (RR.out.addR HW0.out hI.out hg.out hb.out)
            replace GB := hid (Below.refl w145.heap.size w145)
            clear hI hg hb C3 hl1
            refine hK.out _ _ (fun _ => KX.out _ RR.out.b0) ?_
            clear hK
            refine wpAnyT_one (i := 8) (o := { dst := some 151, op := Op.call { callee := Callee.builtin Builtin.append, args := #[Operand.tmp 148, Operand.tmp 150], argTypes := #[38, 38] }, type := 38, pos := "outright.go:124", after := #[{ on := 5, ground := Ground.data }, { on := 7, ground := Ground.data }, { on := 4, ground := Ground.chain }], guard := none }) (by kernel_rfl) rfl (fun K hK => ?_)
            refine step_append_ivs w145 rfl (.tmp 148) (.tmp 150) rfl W0.heap.size (.slice ac rl capc) sc j rfl RR.out.c D81.heap.size rfl C7.out HLC.out RR.out.b0.size ?_
            intro g2 l2 cap2 w146 hl2 hI hg hb
            replace DB := hid (DB.out.ty13 (Ty.grown RR.out.c hg.out) (by decide))
            replace RR := hid (RR.out.addC HW0.out hI.out hg.out hb.out)
            replace GB := hid (Below.refl w146.heap.size w146)
            clear hI hg hb C7 hl2
            refine hK.out _ _ (fun _ => KX.out _ RR.out.b0) ?_
            clear hK
            refine wpAnyT_one (i := 9) (o := { dst := some 152, op := Op.call { callee := Callee.value (Operand.func 14), args := #[Operand.tmp 143, Operand.tmp 147, Operand.tmp 151], argTypes := #[24, 38, 38] }, type := 36, pos := "outright.go:124", after := #[{ on := 0, ground := Ground.data }, { on := 4, ground := Ground.data }, { on := 8, ground := Ground.data }, { on := 8, ground := Ground.chain }], guard := none }) (by kernel_rfl) rfl (fun K hK => ?_)
            go_simp
            go_at_call 14
            refine (pick_yes (M0.out.now RR.out.b0) (RR.out.r.in9 (by rw [HL1.out]; omega)) (RR.out.c.in9 (by rw [HL2.out]; omega)) HB1.out HB2.out (by rw [HL1.out]; omega) (by rw [HL2.out]; omega)).mono ?_
            rintro e w147 ⟨vp, rfl, mp, b⟩
            have lz147 := (show Below _ _ _ from b).size
            replace GB := hid (below_step GB.out b)
            rw [HL1.out, HL2.out] at mp
            obtain ⟨ap2, qp2, hvp, -, -⟩ := mp.mx.form
            obtain ⟨lp2, hlp⟩ : ∃ lp2, kk * kk = lp2 := ⟨_, rfl⟩
            rw [hlp] at hvp
            subst hvp
            have MP := hid mp.mx
            clear mp hlp
            replace DB := hid (DB.out.step b)
            replace RR := hid (RR.out.now b)
            clear b
            refine hK.out _ _ (fun _ => KX.out _ RR.out.b0) ?_
            clear hK
            refine wpAnyT_take (i := 10) (oi := { dst := some 142, op := Op.move (Operand.tmp 152), type := 36, pos := "outright.go:124", after := #[{ on := 9, ground := Ground.data }], guard := none }) (v := (.tuple #[(.agg #[.int .i64 (kk : Int), .int .i64 (kk : Int), .slice ap2 lp2 qp2]), (.int .i64 0)])) rfl (by kernel_rfl) (fun _ _ _ h => h) (Or.inl ⟨by rfl, ?_⟩) (KX.out _ RR.out.b0) ?_
            · intro w hSw
              (try dsimp only at hSw)
              go_simp
            simp only [Act.put, List.setIfInBounds_toArray, List.set_cons_zero, List.set_cons_succ]
            refine wpAnyT_take (i := 11) (oi := { dst := some 153, op := Op.extract (Operand.tmp 142) 0, type := 24, pos := "outright.go:124", after := #[{ on := 10, ground := Ground.data }], guard := none }) (v := (.agg #[.int .i64 (kk : Int), .int .i64 (kk : Int), .slice ap2 lp2 qp2])) rfl (by kernel_rfl) (fun _ _ _ h => h) (Or.inl ⟨by rfl, ?_⟩) (KX.out _ RR.out.b0) ?_
            · intro w hSw
              (try dsimp only at hSw)
              go_simp
            simp only [Act.put, List.setIfInBounds_toArray, List.set_cons_zero, List.set_cons_succ]
            refine wpAnyT_take (i := 12) (oi := { dst := some 154, op := Op.extract (Operand.tmp 142) 1, type := 35, pos := "outright.go:124", after := #[{ on := 10, ground := Ground.data }, { on := 14, ground := Ground.gcOnly Departure.lateStores }], guard := none }) (v := (.int .i64 0)) rfl (by kernel_rfl) (fun _ _ _ h => h) (Or.inl ⟨by rfl, ?_⟩) (KX.out _ RR.out.b0) ?_
            · intro w hSw
              (try dsimp only at hSw)
              go_simp
            simp only [Act.put, List.setIfInBounds_toArray, List.set_cons_zero, List.set_cons_succ]
            refine wpAnyT_one (i := 14) (o := { dst := none, op := Op.store 24 (Operand.tmp 16) (Operand.tmp 153), type := 0, pos := "outright.go:124", after := #[{ on := 13, ground := Ground.data }, { on := 11, ground := Ground.data }, { on := 9, ground := Ground.chain }, { on := 0, ground := Ground.phase }, { on := 1, ground := Ground.phase }, { on := 2, ground := Ground.phase }, { on := 3, ground := Ground.phase }, { on := 4, ground := Ground.phase }, { on := 5, ground := Ground.phase }, { on := 6, ground := Ground.phase }, { on := 7, ground := Ground.phase }, { on := 8, ground := Ground.phase }, { on := 9, ground := Ground.phase }, { on := 10, ground := Ground.phase }, { on := 11, ground := Ground.phase }, { on := 12, ground := Ground.textOnly Departure.lateStores }, { on := 13, ground := Ground.phase }], guard := none }) (by kernel_rfl) rfl (fun K hK => ?_)
            have e0 := DB.out.at (i := 0) rfl
            have e1 := DB.out.at (i := 1) rfl
            have e2 := DB.out.at (i := 2) rfl
            have e3 := DB.out.fz 0
            have e4 := DB.out.fz 1
            have e5 := DB.out.fz 2
            go_simp
            clear e0 e1 e2 e3 e4 e5
            obtain ⟨V148, hW⟩ : ∃ V148, (((w147.setCell ⟨V131.heap.size, 0, none⟩ (.int .i64 (kk : Int))).setCell ⟨V131.heap.size, 1, none⟩ (.int .i64 (kk : Int))).setCell ⟨V131.heap.size, 2, none⟩ (.slice ap2 lp2 qp2)) = V148 := ⟨_, rfl⟩
            have FP : Hid (PkN w w13 V148 (.pointer (some ⟨V131.heap.size, 0, none⟩)) (.int .i64 0) kk (pickL r c xs (rs ++ [i]) (sc ++ [j]))) := by
              unfold Hid; rw [← hW]
              exact pkn_put DB.out MP.out RR.out.bw RR.out.ty SB.out HWW.out
            replace RR : Hid (B15 W0 V148) := by
              unfold Hid; rw [← hW]
              have q := Nat.le_trans HW2.out SB.out
              exact ⟨bset (bset (bset RR.out.b0 q) q) q⟩
            clear GB
            rw [hW]
            clear hW
            refine hK.out _ _ (fun _ => KX.out _ RR.out.b0) ?_
            clear hK
            try simp only [Act.put]
            refine wpAnyT_one (i := 15) (o := { dst := some 10, op := Op.assign (Operand.tmp 154), type := 35, pos := "outright.go:124", after := #[{ on := 12, ground := Ground.data }, { on := 14, ground := Ground.chain }, { on := 0, ground := Ground.phase }, { on := 1, ground := Ground.phase }, { on := 2, ground := Ground.phase }, { on := 3, ground := Ground.phase }, { on := 4, ground := Ground.phase }, { on := 5, ground := Ground.phase }, { on := 6, ground := Ground.phase }, { on := 7, ground := Ground.phase }, { on := 8, ground := Ground.phase }, { on := 9, ground := Ground.phase }, { on := 10, ground := Ground.phase }, { on := 11, ground := Ground.phase }, { on := 12, ground := Ground.phase }, { on := 13, ground := Ground.phase }, { on := 14, ground := Ground.phase }], guard := none }) (by kernel_rfl) rfl (fun K hK => ?_)
            go_simp
            refine hK.out _ _ (fun h => absurd h (by decide)) ?_
            clear hK
            try simp only [Act.put]
            refine wpAnyT_done (by kernel_rfl) ?_ _
            clear DB SB MP RR
            go_wp2_with fail
            go_meet
            exact FP.out
        · skip
          go_simp
          obtain ⟨V149, hW⟩ : ∃ V149, V130.alloc mbox = V149 := ⟨_, rfl⟩
          obtain ⟨b, sz149⟩ := alo1 V130 mbox
          rw [hW] at b sz149
          replace GB := hid (below_step GB.out b)
          have SB : Hid (w13.heap.size ≤ V130.heap.size) := RR.out.ty.1
          have DB : Hid (Cel V149 V130.heap.size 24 [.int .i64 0, .int .i64 0, .slice none 0 0]) := by unfold Hid; rw [← hW]; exact Cel.new V130 _ _
          clear sz149
          replace C7 := hid (cnow b C7.out)
          replace RR := hid (RR.out.now b)
          rw [hW]
          clear hW b
          refine hK.out _ _ (fun _ => KX.out _ RR.out.b0) ?_
          clear hK
          try simp only [Act.put]
          refine wpAnyT_one (i := 3) (o := { dst := some 146, op := Op.buildSlice 38 1 #[(0, Operand.tmp 145)], type := 38, pos := "outright.go:124", after := #[{ on := 2, ground := Ground.data }], guard := none }) (by kernel_rfl) rfl (fun K hK => ?_)
          go_simp
          have SC3 : Hid (w13.heap.size ≤ V149.heap.size) := RR.out.ty.1
          obtain ⟨V150, hW⟩ : ∃ V150, V149.alloc (.cells #[.int .i64 (i : Int)] 3) = V150 := ⟨_, rfl⟩
          obtain ⟨b, sz150⟩ := alo1 V149 (.cells #[.int .i64 (i : Int)] 3)
          rw [hW] at b sz150
          have C3 : Hid (V150.cell? ⟨V149.heap.size, 0, none⟩ = some (.int .i64 (i : Int))) := by unfold Hid; rw [← hW]; exact (Cel.new V149 3 [.int .i64 (i : Int)]).at (i := 0) rfl
          replace GB := hid (below_step GB.out b)
          replace C7 := hid (cnow b C7.out)
          replace DB := hid (DB.out.step b)
          replace RR := hid (RR.out.now b)
          rw [hW]
          clear hW b sz150
          refine hK.out _ _ (fun _ => KX.out _ RR.out.b0) ?_
          clear hK
          try simp only [Act.put]
          refine wpAnyT_one (i := 4) (o := { dst := some 147, op := Op.call { callee := Callee.builtin Builtin.append, args := #[Operand.tmp 144, Operand.tmp 146], argTypes := #[38, 38] }, type := 38, pos := "outright.go:124", after := #[{ on := 1, ground := Ground.data }, { on := 3, ground := Ground.data }], guard := none }) (by kernel_rfl) rfl (fun K hK => ?_)
          refine step_append_ivs V150 rfl (.tmp 144) (.tmp 146) rfl W0.heap.size (.slice ar rl capr) rs i rfl RR.out.r V149.heap.size rfl C3.out HLR.out RR.out.b0.size ?_
          intro g1 l1 cap1 w151 hl1 hI hg hb
          replace C7 := hid (cell_grown13 hg.out HVR.out SC7.out C7.out)
          replace DB := hid (DB.out.ty13 (Ty.grown RR.out.r hg.out) (by decide))
          replace RR := hid (RR.out.addR HW0.out hI.out hg.out hb.out)
          replace GB := hid (Below.refl w151.heap.size w151)
          clear hI hg hb C3 hl1
          refine hK.out _ _ (fun _ => KX.out _ RR.out.b0) ?_
          clear hK
          refine wpAnyT_one (i := 8) (o := { dst := some 151, op := Op.call { callee := Callee.builtin Builtin.append, args := #[Operand.tmp 148, Operand.tmp 150], argTypes := #[38, 38] }, type := 38, pos := "outright.go:124", after := #[{ on := 5, ground := Ground.data }, { on := 7, ground := Ground.data }, { on := 4, ground := Ground.chain }], guard := none }) (by kernel_rfl) rfl (fun K hK => ?_)
          refine step_append_ivs w151 rfl (.tmp 148) (.tmp 150) rfl W0.heap.size (.slice ac rl capc) sc j rfl RR.out.c D81.heap.size rfl C7.out HLC.out RR.out.b0.size ?_
          intro g2 l2 cap2 w152 hl2 hI hg hb
          replace DB := hid (DB.out.ty13 (Ty.grown RR.out.c hg.out) (by decide))
          replace RR := hid (RR.out.addC HW0.out hI.out hg.out hb.out)
          replace GB := hid (Below.refl w152.heap.size w152)
          clear hI hg hb C7 hl2
          refine hK.out _ _ (fun _ => KX.out _ RR.out.b0) ?_
          clear hK
          refine wpAnyT_one (i := 9) (o := { dst := some 152, op := Op.call { callee := Callee.value (Operand.func 14), args := #[Operand.tmp 143, Operand.tmp 147, Operand.tmp 151], argTypes := #[24, 38, 38] }, type := 36, pos := "outright.go:124", after := #[{ on := 0, ground := Ground.data }, { on := 4, ground := Ground.data }, { on := 8, ground := Ground.data }, { on := 8, ground := Ground.chain }], guard := none }) (by kernel_rfl) rfl (fun K hK => ?_)
          go_simp
          go_at_call 14
          refine (pick_yes (M0.out.now RR.out.b0) (RR.out.r.in9 (by rw [HL1.out]; omega)) (RR.out.c.in9 (by rw [HL2.out]; omega)) HB1.out HB2.out (by rw [HL1.out]; omega) (by rw [HL2.out]; omega)).mono ?_
          rintro e w153 ⟨vp, rfl, mp, b⟩
          have lz153 := (show Below _ _ _ from b).size
          replace GB := hid (below_step GB.out b)
          rw [HL1.out, HL2.out] at mp
          obtain ⟨ap2, qp2, hvp, -, -⟩ := mp.mx.form
          obtain ⟨lp2, hlp⟩ : ∃ lp2, kk * kk = lp2 := ⟨_, rfl⟩
          rw [hlp] at hvp
          subst hvp
          have MP := hid mp.mx
          clear mp hlp
          replace DB := hid (DB.out.step b)
          replace RR := hid (RR.out.now b)
          clear b
          refine hK.out _ _ (fun _ => KX.out _ RR.out.b0) ?_
          clear hK
          refine wpAnyT_take (i := 10) (oi := { dst := some 142, op := Op.move (Operand.tmp 152), type := 36, pos := "outright.go:124", after := #[{ on := 9, ground := Ground.data }], guard := none }) (v := (.tuple #[(.agg #[.int .i64 (kk : Int), .int .i64 (kk : Int), .slice ap2 lp2 qp2]), (.int .i64 0)])) rfl (by kernel_rfl) (fun _ _ _ h => h) (Or.inl ⟨by rfl, ?_⟩) (KX.out _ RR.out.b0) ?_
          · intro w hSw
            (try dsimp only at hSw)
            go_simp
          simp only [Act.put, List.setIfInBounds_toArray, List.set_cons_zero, List.set_cons_succ]
          refine wpAnyT_take (i := 11) (oi := { dst := some 153, op := Op.extract (Operand.tmp 142) 0, type := 24, pos := "outright.go:124", after := #[{ on := 10, ground := Ground.data }], guard := none }) (v := (.agg #[.int .i64 (kk : Int), .int .i64 (kk : Int), .slice ap2 lp2 qp2])) rfl (by kernel_rfl) (fun _ _ _ h => h) (Or.inl ⟨by rfl, ?_⟩) (KX.out _ RR.out.b0) ?_
          · intro w hSw
            (try dsimp only at hSw)
            go_simp
          simp only [Act.put, List.setIfInBounds_toArray, List.set_cons_zero, List.set_cons_succ]
          refine wpAnyT_take (i := 12) (oi := { dst := some 154, op := Op.extract (Operand.tmp 142) 1, type := 35, pos := "outright.go:124", after := #[{ on := 10, ground := Ground.data }, { on := 14, ground := Ground.gcOnly Departure.lateStores }], guard := none }) (v := (.int .i64 0)) rfl (by kernel_rfl) (fun _ _ _ h => h) (Or.inl ⟨by rfl, ?_⟩) (KX.out _ RR.out.b0) ?_
          · intro w hSw
            (try dsimp only at hSw)
            go_simp
          simp only [Act.put, List.setIfInBounds_toArray, List.set_cons_zero, List.set_cons_succ]
          refine wpAnyT_one (i := 14) (o := { dst := none, op := Op.store 24 (Operand.tmp 16) (Operand.tmp 153), type := 0, pos := "outright.go:124", after := #[{ on := 13, ground := Ground.data }, { on := 11, ground := Ground.data }, { on := 9, ground := Ground.chain }, { on := 0, ground := Ground.phase }, { on := 1, ground := Ground.phase }, { on := 2, ground := Ground.phase }, { on := 3, ground := Ground.phase }, { on := 4, ground := Ground.phase }, { on := 5, ground := Ground.phase }, { on := 6, ground := Ground.phase }, { on := 7, ground := Ground.phase }, { on := 8, ground := Ground.phase }, { on := 9, ground := Ground.phase }, { on := 10, ground := Ground.phase }, { on := 11, ground := Ground.phase }, { on := 12, ground := Ground.textOnly Departure.lateStores }, { on := 13, ground := Ground.phase }], guard := none }) (by kernel_rfl) rfl (fun K hK => ?_)
          have e0 := DB.out.at (i := 0) rfl
          have e1 := DB.out.at (i := 1) rfl
          have e2 := DB.out.at (i := 2) rfl
          have e3 := DB.out.fz 0
          have e4 := DB.out.fz 1
          have e5 := DB.out.fz 2
          go_simp
          clear e0 e1 e2 e3 e4 e5
          obtain ⟨V154, hW⟩ : ∃ V154, (((w153.setCell ⟨V130.heap.size, 0, none⟩ (.int .i64 (kk : Int))).setCell ⟨V130.heap.size, 1, none⟩ (.int .i64 (kk : Int))).setCell ⟨V130.heap.size, 2, none⟩ (.slice ap2 lp2 qp2)) = V154 := ⟨_, rfl⟩
          have FP : Hid (PkN w w13 V154 (.pointer (some ⟨V130.heap.size, 0, none⟩)) (.int .i64 0) kk (pickL r c xs (rs ++ [i]) (sc ++ [j]))) := by
            unfold Hid; rw [← hW]
            exact pkn_put DB.out MP.out RR.out.bw RR.out.ty SB.out HWW.out
          replace RR : Hid (B15 W0 V154) := by
            unfold Hid; rw [← hW]
            have q := Nat.le_trans HW2.out SB.out
            exact ⟨bset (bset (bset RR.out.b0 q) q) q⟩
          clear GB
          rw [hW]
          clear hW
          refine hK.out _ _ (fun _ => KX.out _ RR.out.b0) ?_
          clear hK
          try simp only [Act.put]
          refine wpAnyT_one (i := 15) (o := { dst := some 10, op := Op.assign (Operand.tmp 154), type := 35, pos := "outright.go:124", after := #[{ on := 12, ground := Ground.data }, { on := 14, ground := Ground.chain }, { on := 0, ground := Ground.phase }, { on := 1, ground := Ground.phase }, { on := 2, ground := Ground.phase }, { on := 3, ground := Ground.phase }, { on := 4, ground := Ground.phase }, { on := 5, ground := Ground.phase }, { on := 6, ground := Ground.phase }, { on := 7, ground := Ground.phase }, { on := 8, ground := Ground.phase }, { on := 9, ground := Ground.phase }, { on := 10, ground := Ground.phase }, { on := 11, ground := Ground.phase }, { on := 12, ground := Ground.phase }, { on := 13, ground := Ground.phase }, { on := 14, ground := Ground.phase }], guard := none }) (by kernel_rfl) rfl (fun K hK => ?_)
          go_simp
          refine hK.out _ _ (fun h => absurd h (by decide)) ?_
          clear hK
          try simp only [Act.put]
          refine wpAnyT_done (by kernel_rfl) ?_ _
          clear DB SB MP RR
          go_wp2_with fail
          go_meet
          exact FP.out
      · skip
        go_simp
        obtain ⟨V155, hW⟩ : ∃ V155, D81.alloc mbox = V155 := ⟨_, rfl⟩
        obtain ⟨b, sz155⟩ := alo1 D81 mbox
        rw [hW] at b sz155
        replace GB := hid (below_step GB.out b)
        have SB : Hid (w13.heap.size ≤ D81.heap.size) := RR.out.ty.1
        have DB : Hid (Cel V155 D81.heap.size 24 [.int .i64 0, .int .i64 0, .slice none 0 0]) := by unfold Hid; rw [← hW]; exact Cel.new D81 _ _
        clear sz155
        replace RR := hid (RR.out.now b)
        rw [hW]
        clear hW b
        refine hK.out _ _ (fun _ => KX.out _ RR.out.b0) ?_
        clear hK
        try simp only [Act.put]
        refine wpAnyT_two (i := 3) (j := 7) (oi := { dst := some 146, op := Op.buildSlice 38 1 #[(0, Operand.tmp 145)], type := 38, pos := "outright.go:124", after := #[{ on := 2, ground := Ground.data }], guard := none }) (oj := { dst := some 150, op := Op.buildSlice 38 1 #[(0, Operand.tmp 149)], type := 38, pos := "outright.go:124", after := #[{ on := 6, ground := Ground.data }], guard := none }) (by kernel_rfl) rfl rfl (fun K hK => ?_) (fun K hK => ?_)
        · skip
          go_simp
          have SC3 : Hid (w13.heap.size ≤ V155.heap.size) := RR.out.ty.1
          obtain ⟨V156, hW⟩ : ∃ V156, V155.alloc (.cells #[.int .i64 (i : Int)] 3) = V156 := ⟨_, rfl⟩
          obtain ⟨b, sz156⟩ := alo1 V155 (.cells #[.int .i64 (i : Int)] 3)
          rw [hW] at b sz156
          have C3 : Hid (V156.cell? ⟨V155.heap.size, 0, none⟩ = some (.int .i64 (i : Int))) := by unfold Hid; rw [← hW]; exact (Cel.new V155 3 [.int .i64 (i : Int)]).at (i := 0) rfl
          replace GB := hid (below_step GB.out b)
          replace DB := hid (DB.out.step b)
          replace RR := hid (RR.out.now b)
          rw [hW]
          clear hW b sz156
          refine hK.out _ _ (fun _ => KX.out _ RR.out.b0) ?_
          clear hK
          try simp only [Act.put]
          refine wpAnyT_two (i := 4) (j := 7) (oi := { dst := some 147, op := Op.call { callee := Callee.builtin Builtin.append, args := #[Operand.tmp 144, Operand.tmp 146], argTypes := #[38, 38] }, type := 38, pos := "outright.go:124", after := #[{ on := 1, ground := Ground.data }, { on := 3, ground := Ground.data }], guard := none }) (oj := { dst := some 150, op := Op.buildSlice 38 1 #[(0, Operand.tmp 149)], type := 38, pos := "outright.go:124", after := #[{ on := 6, ground := Ground.data }], guard := none }) (by kernel_rfl) rfl rfl (fun K hK => ?_) (fun K hK => ?_)
          · skip
            refine step_append_ivs V156 rfl (.tmp 144) (.tmp 146) rfl W0.heap.size (.slice ar rl capr) rs i rfl RR.out.r V155.heap.size rfl C3.out HLR.out RR.out.b0.size ?_
            intro g1 l1 cap1 w157 hl1 hI hg hb
            replace DB := hid (DB.out.ty13 (Ty.grown RR.out.r hg.out) (by decide))
            replace RR := hid (RR.out.addR HW0.out hI.out hg.out hb.out)
            replace GB := hid (Below.refl w157.heap.size w157)
            clear hI hg hb C3 hl1
            refine hK.out _ _ (fun _ => KX.out _ RR.out.b0) ?_
            clear hK
            refine wpAnyT_one (i := 7) (o := { dst := some 150, op := Op.buildSlice 38 1 #[(0, Operand.tmp 149)], type := 38, pos := "outright.go:124", after := #[{ on := 6, ground := Ground.data }], guard := none }) (by kernel_rfl) rfl (fun K hK => ?_)
            go_simp
            have SC7 : Hid (w13.heap.size ≤ w157.heap.size) := RR.out.ty.1
            obtain ⟨V158, hW⟩ : ∃ V158, w157.alloc (.cells #[.int .i64 (j : Int)] 3) = V158 := ⟨_, rfl⟩
            obtain ⟨b, sz158⟩ := alo1 w157 (.cells #[.int .i64 (j : Int)] 3)
            rw [hW] at b sz158
            have C7 : Hid (V158.cell? ⟨w157.heap.size, 0, none⟩ = some (.int .i64 (j : Int))) := by unfold Hid; rw [← hW]; exact (Cel.new w157 3 [.int .i64 (j : Int)]).at (i := 0) rfl
            replace GB := hid (below_step GB.out b)
            replace DB := hid (DB.out.step b)
            replace RR := hid (RR.out.now b)
            rw [hW]
            clear hW b sz158
            refine hK.out _ _ (fun _ => KX.out _ RR.out.b0) ?_
            clear hK
            try simp only [Act.put]
            refine wpAnyT_one (i := 8) (o := { dst := some 151, op := Op.call { callee := Callee.builtin Builtin.append, args := #[Operand.tmp 148, Operand.tmp 150], argTypes := #[38, 38] }, type := 38, pos := "outright.go:124", after := #[{ on := 5, ground := Ground.data }, { on := 7, ground := Ground.data }, { on := 4, ground := Ground.chain }], guard := none }) (by kernel_rfl) rfl (fun K hK => ?_)
            refine step_append_ivs V158 rfl (.tmp 148) (.tmp 150) rfl W0.heap.size (.slice ac rl capc) sc j rfl RR.out.c w157.heap.size rfl C7.out HLC.out RR.out.b0.size ?_
            intro g2 l2 cap2 w159 hl2 hI hg hb
            replace DB := hid (DB.out.ty13 (Ty.grown RR.out.c hg.out) (by decide))
            replace RR := hid (RR.out.addC HW0.out hI.out hg.out hb.out)
            replace GB := hid (Below.refl w159.heap.size w159)
            clear hI hg hb C7 hl2
            refine hK.out _ _ (fun _ => KX.out _ RR.out.b0) ?_
            clear hK
            refine wpAnyT_one (i := 9) (o := { dst := some 152, op := Op.call { callee := Callee.value (Operand.func 14), args := #[Operand.tmp 143, Operand.tmp 147, Operand.tmp 151], argTypes := #[24, 38, 38] }, type := 36, pos := "outright.go:124", after := #[{ on := 0, ground := Ground.data }, { on := 4, ground := Ground.data }, { on := 8, ground := Ground.data }, { on := 8, ground := Ground.chain }], guard := none }) (by kernel_rfl) rfl (fun K hK => ?_)
            go_simp
            go_at_call 14
            refine (pick_yes (M0.out.now RR.out.b0) (RR.out.r.in9 (by rw [HL1.out]; omega)) (RR.out.c.in9 (by rw [HL2.out]; omega)) HB1.out HB2.out (by rw [HL1.out]; omega) (by rw [HL2.out]; omega)).mono ?_
            rintro e w160 ⟨vp, rfl, mp, b⟩
            have lz160 := (show Below _ _ _ from b).size
            replace GB := hid (below_step GB.out b)
            rw [HL1.out, HL2.out] at mp
            obtain ⟨ap2, qp2, hvp, -, -⟩ := mp.mx.form
            obtain ⟨lp2, hlp⟩ : ∃ lp2, kk * kk = lp2 := ⟨_, rfl⟩
            rw [hlp] at hvp
            subst hvp
            have MP := hid mp.mx
            clear mp hlp
            replace DB := hid (DB.out.step b)
            replace RR := hid (RR.out.now b)
            clear b
            refine hK.out _ _ (fun _ => KX.out _ RR.out.b0) ?_
            clear hK
            refine wpAnyT_take (i := 10) (oi := { dst := some 142, op := Op.move (Operand.tmp 152), type := 36, pos := "outright.go:124", after := #[{ on := 9, ground := Ground.data }], guard := none }) (v := (.tuple #[(.agg #[.int .i64 (kk : Int), .int .i64 (kk : Int), .slice ap2 lp2 qp2]), (.int .i64 0)])) rfl (by kernel_rfl) (fun _ _ _ h => h) (Or.inl ⟨by rfl, ?_⟩) (KX.out _ RR.out.b0) ?_
            · intro w hSw
              (try dsimp only at hSw)
              go_simp
            simp only [Act.put, List.setIfInBounds_toArray, List.set_cons_zero, List.set_cons_succ]
            refine wpAnyT_take (i := 11) (oi := { dst := some 153, op := Op.extract (Operand.tmp 142) 0, type := 24, pos := "outright.go:124", after := #[{ on := 10, ground := Ground.data }], guard := none }) (v := (.agg #[.int .i64 (kk : Int), .int .i64 (kk : Int), .slice ap2 lp2 qp2])) rfl (by kernel_rfl) (fun _ _ _ h => h) (Or.inl ⟨by rfl, ?_⟩) (KX.out _ RR.out.b0) ?_
            · intro w hSw
              (try dsimp only at hSw)
              go_simp
            simp only [Act.put, List.setIfInBounds_toArray, List.set_cons_zero, List.set_cons_succ]
            refine wpAnyT_take (i := 12) (oi := { dst := some 154, op := Op.extract (Operand.tmp 142) 1, type := 35, pos := "outright.go:124", after := #[{ on := 10, ground := Ground.data }, { on := 14, ground := Ground.gcOnly Departure.lateStores }], guard := none }) (v := (.int .i64 0)) rfl (by kernel_rfl) (fun _ _ _ h => h) (Or.inl ⟨by rfl, ?_⟩) (KX.out _ RR.out.b0) ?_
            · intro w hSw
              (try dsimp only at hSw)
              go_simp
            simp only [Act.put, List.setIfInBounds_toArray, List.set_cons_zero, List.set_cons_succ]
            refine wpAnyT_one (i := 14) (o := { dst := none, op := Op.store 24 (Operand.tmp 16) (Operand.tmp 153), type := 0, pos := "outright.go:124", after := #[{ on := 13, ground := Ground.data }, { on := 11, ground := Ground.data }, { on := 9, ground := Ground.chain }, { on := 0, ground := Ground.phase }, { on := 1, ground := Ground.phase }, { on := 2, ground := Ground.phase }, { on := 3, ground := Ground.phase }, { on := 4, ground := Ground.phase }, { on := 5, ground := Ground.phase }, { on := 6, ground := Ground.phase }, { on := 7, ground := Ground.phase }, { on := 8, ground := Ground.phase }, { on := 9, ground := Ground.phase }, { on := 10, ground := Ground.phase }, { on := 11, ground := Ground.phase }, { on := 12, ground := Ground.textOnly Departure.lateStores }, { on := 13, ground := Ground.phase }], guard := none }) (by kernel_rfl) rfl (fun K hK => ?_)
            have e0 := DB.out.at (i := 0) rfl
            have e1 := DB.out.at (i := 1) rfl
            have e2 := DB.out.at (i := 2) rfl
            have e3 := DB.out.fz 0
            have e4 := DB.out.fz 1
            have e5 := DB.out.fz 2
            go_simp
            clear e0 e1 e2 e3 e4 e5
            obtain ⟨V161, hW⟩ : ∃ V161, (((w160.setCell ⟨D81.heap.size, 0, none⟩ (.int .i64 (kk : Int))).setCell ⟨D81.heap.size, 1, none⟩ (.int .i64 (kk : Int))).setCell ⟨D81.heap.size, 2, none⟩ (.slice ap2 lp2 qp2)) = V161 := ⟨_, rfl⟩
            have FP : Hid (PkN w w13 V161 (.pointer (some ⟨D81.heap.size, 0, none⟩)) (.int .i64 0) kk (pickL r c xs (rs ++ [i]) (sc ++ [j]))) := by
              unfold Hid; rw [← hW]
              exact pkn_put DB.out MP.out RR.out.bw RR.out.ty SB.out HWW.out
            replace RR : Hid (B15 W0 V161) := by
              unfold Hid; rw [← hW]
              have q := Nat.le_trans HW2.out SB.out
              exact ⟨bset (bset (bset RR.out.b0 q) q) q⟩
            clear GB
            rw [hW]
            clear hW
            refine hK.out _ _ (fun _ => KX.out _ RR.out.b0) ?_
            clear hK
            try simp only [Act.put]
            refine wpAnyT_one (i := 15) (o := { dst := some 10, op := Op.assign (Operand.tmp 154), type := 35, pos := "outright.go:124", after := #[{ on := 12, ground := Ground.data }, { on := 14, ground := Ground.chain }, { on := 0, ground := Ground.phase }, { on := 1, ground := Ground.phase }, { on := 2, ground := Ground.phase }, { on := 3, ground := Ground.phase }, { on := 4, ground := Ground.phase }, { on := 5, ground := Ground.phase }, { on := 6, ground := Ground.phase }, { on := 7, ground := Ground.phase }, { on := 8, ground := Ground.phase }, { on := 9, ground := Ground.phase }, { on := 10, ground := Ground.phase }, { on := 11, ground := Ground.phase }, { on := 12, ground := Ground.phase }, { on := 13, ground := Ground.phase }, { on := 14, ground := Ground.phase }], guard := none }) (by kernel_rfl) rfl (fun K hK => ?_)
            go_simp
            refine hK.out _ _ (fun h => absurd h (by decide)) ?_
            clear hK
            try simp only [Act.put]
            refine wpAnyT_done (by kernel_rfl) ?_ _
            clear DB SB MP RR
            go_wp2_with fail
            go_meet
            exact FP.out
          · skip
            go_simp
            have SC7 : Hid (w13.heap.size ≤ V156.heap.size) := RR.out.ty.1
            obtain ⟨V162, hW⟩ : ∃ V162, V156.alloc (.cells #[.int .i64 (j : Int)] 3) = V162 := ⟨_, rfl⟩
            obtain ⟨b, sz162⟩ := alo1 V156 (.cells #[.int .i64 (j : Int)] 3)
            rw [hW] at b sz162
            have C7 : Hid (V162.cell? ⟨V156.heap.size, 0, none⟩ = some (.int .i64 (j : Int))) := by unfold Hid; rw [← hW]; exact (Cel.new V156 3 [.int .i64 (j : Int)]).at (i := 0) rfl
            replace GB := hid (below_step GB.out b)
            replace C3 := hid (cnow b C3.out)
            replace DB := hid (DB.out.step b)
            replace RR := hid (RR.out.now b)
            rw [hW]
            clear hW b sz162
            refine hK.out _ _ (fun _ => KX.out _ RR.out.b0) ?_
            clear hK
            try simp only [Act.put]
            refine wpAnyT_one (i := 4) (o := { dst := some 147, op := Op.call { callee := Callee.builtin Builtin.append, args := #[Operand.tmp 144, Operand.tmp 146], argTypes := #[38, 38] }, type := 38, pos := "outright.go:124", after := #[{ on := 1, ground := Ground.data }, { on := 3, ground := Ground.data }], guard := none }) (by kernel_rfl) rfl (fun K hK => ?_)
            refine step_append_ivs V162 rfl (.tmp 144) (.tmp 146) rfl W0.heap.size (.slice ar rl capr) rs i rfl RR.out.r V155.heap.size rfl C3.out HLR.out RR.out.b0.size ?_
            intro g1 l1 cap1 w163 hl1 hI hg hb
            replace C7 := hid (cell_grown13 hg.out HVR.out SC7.out C7.out)
            replace DB := hid (DB.out.ty13 (Ty.grown RR.out.r hg.out) (by decide))
            replace RR := hid (RR.out.addR HW0.out hI.out hg.out hb.out)
            replace GB := hid (Below.refl w163.heap.size w163)
            clear hI hg hb C3 hl1
            refine hK.out _ _ (fun _ => KX.out _ RR.out.b0) ?_
            clear hK
            refine wpAnyT_one (i := 8) (o := { dst := some 151, op := Op.call { callee := Callee.builtin Builtin.append, args := #[Operand.tmp 148, Operand.tmp 150], argTypes := #[38, 38] }, type := 38, pos := "outright.go:124", after := #[{ on := 5, ground := Ground.data }, { on := 7, ground := Ground.data }, { on := 4, ground := Ground.chain }], guard := none }) (by kernel_rfl) rfl (fun K hK => ?_)
            refine step_append_ivs w163 rfl (.tmp 148) (.tmp 150) rfl W0.heap.size (.slice ac rl capc) sc j rfl RR.out.c V156.heap.size rfl C7.out HLC.out RR.out.b0.size ?_
            intro g2 l2 cap2 w164 hl2 hI hg hb
            replace DB := hid (DB.out.ty13 (Ty.grown RR.out.c hg.out) (by decide))
            replace RR := hid (RR.out.addC HW0.out hI.out hg.out hb.out)
            replace GB := hid (Below.refl w164.heap.size w164)
            clear hI hg hb C7 hl2
            refine hK.out _ _ (fun _ => KX.out _ RR.out.b0) ?_
            clear hK
            refine wpAnyT_one (i := 9) (o := { dst := some 152, op := Op.call { callee := Callee.value (Operand.func 14), args := #[Operand.tmp 143, Operand.tmp 147, Operand.tmp 151], argTypes := #[24, 38, 38] }, type := 36, pos := "outright.go:124", after := #[{ on := 0, ground := Ground.data }, { on := 4, ground := Ground.data }, { on := 8, ground := Ground.data }, { on := 8, ground := Ground.chain }], guard := none }) (by kernel_rfl) rfl (fun K hK => ?_)
            go_simp
            go_at_call 14
            refine (pick_yes (M0.out.now RR.out.b0) (RR.out.r.in9 (by rw [HL1.out]; omega)) (RR.out.c.in9 (by rw [HL2.out]; omega)) HB1.out HB2.out (by rw [HL1.out]; omega) (by rw [HL2.out]; omega)).mono ?_
            rintro e w165 ⟨vp, rfl, mp, b⟩
            have lz165 := (show Below _ _ _ from b).size
            replace GB := hid (below_step GB.out b)
            rw [HL1.out, HL2.out] at mp
            obtain ⟨ap2, qp2, hvp, -, -⟩ := mp.mx.form
            obtain ⟨lp2, hlp⟩ : ∃ lp2, kk * kk = lp2 := ⟨_, rfl⟩
            rw [hlp] at hvp
            subst hvp
            have MP := hid mp.mx
            clear mp hlp
            replace DB := hid (DB.out.step b)
            replace RR := hid (RR.out.now b)
            clear b
            refine hK.out _ _ (fun _ => KX.out _ RR.out.b0) ?_
            clear hK
            refine wpAnyT_take (i := 10) (oi := { dst := some 142, op := Op.move (Operand.tmp 152), type := 36, pos := "outright.go:124", after := #[{ on := 9, ground := Ground.data }], guard := none }) (v := (.tuple #[(.agg #[.int .i64 (kk : Int), .int .i64 (kk : Int), .slice ap2 lp2 qp2]), (.int .i64 0)])) rfl (by kernel_rfl) (fun _ _ _ h => h) (Or.inl ⟨by rfl, ?_⟩) (KX.out _ RR.out.b0) ?_
            · intro w hSw
              (try dsimp only at hSw)
              go_simp
            simp only [Act.put, List.setIfInBounds_toArray, List.set_cons_zero, List.set_cons_succ]
            refine wpAnyT_take (i := 11) (oi := { dst := some 153, op := Op.extract (Operand.tmp 142) 0, type := 24, pos := "outright.go:124", after := #[{ on := 10, ground := Ground.data }], guard := none }) (v := (.agg #[.int .i64 (kk : Int), .int .i64 (kk : Int), .slice ap2 lp2 qp2])) rfl (by kernel_rfl) (fun _ _ _ h => h) (Or.inl ⟨by rfl, ?_⟩) (KX.out _ RR.out.b0) ?_
            · intro w hSw
              (try dsimp only at hSw)
              go_simp
            simp only [Act.put, List.setIfInBounds_toArray, List.set_cons_zero, List.set_cons_succ]
            refine wpAnyT_take (i := 12) (oi := { dst := some 154, op := Op.extract (Operand.tmp 142) 1, type := 35, pos := "outright.go:124", after := #[{ on := 10, ground := Ground.data }, { on := 14, ground := Ground.gcOnly Departure.lateStores }], guard := none }) (v := (.int .i64 0)) rfl (by kernel_rfl) (fun _ _ _ h => h) (Or.inl ⟨by rfl, ?_⟩) (KX.out _ RR.out.b0) ?_
            · intro w hSw
              (try dsimp only at hSw)
              go_simp
            simp only [Act.put, List.setIfInBounds_toArray, List.set_cons_zero, List.set_cons_succ]
            refine wpAnyT_one (i := 14) (o := { dst := none, op := Op.store 24 (Operand.tmp 16) (Operand.tmp 153), type := 0, pos := "outright.go:124", after := #[{ on := 13, ground := Ground.data }, { on := 11, ground := Ground.data }, { on := 9, ground := Ground.chain }, { on := 0, ground := Ground.phase }, { on := 1, ground := Ground.phase }, { on := 2, ground := Ground.phase }, { on := 3, ground := Ground.phase }, { on := 4, ground := Ground.phase }, { on := 5, ground := Ground.phase }, { on := 6, ground := Ground.phase }, { on := 7, ground := Ground.phase }, { on := 8, ground := Ground.phase }, { on := 9, ground := Ground.phase }, { on := 10, ground := Ground.phase }, { on := 11, ground := Ground.phase }, { on := 12, ground := Ground.textOnly Departure.lateStores }, { on := 13, ground := Ground.phase }], guard := none }) (by kernel_rfl) rfl (fun K hK => ?_)
            have e0 := DB.out.at (i := 0) rfl
            have e1 := DB.out.at (i := 1) rfl
            have e2 := DB.out.at (i := 2) rfl
            have e3 := DB.out.fz 0
            have e4 := DB.out.fz 1
            have e5 := DB.out.fz 2
            go_simp
            clear e0 e1 e2 e3 e4 e5
            obtain ⟨V166, hW⟩ : ∃ V166, (((w165.setCell ⟨D81.heap.size, 0, none⟩ (.int .i64 (kk : Int))).setCell ⟨D81.heap.size, 1, none⟩ (.int .i64 (kk : Int))).setCell ⟨D81.heap.size, 2, none⟩ (.slice ap2 lp2 qp2)) = V166 := ⟨_, rfl⟩
            have FP : Hid (PkN w w13 V166 (.pointer (some ⟨D81.heap.size, 0, none⟩)) (.int .i64 0) kk (pickL r c xs (rs ++ [i]) (sc ++ [j]))) := by
              unfold Hid; rw [← hW]
              exact pkn_put DB.out MP.out RR.out.bw RR.out.ty SB.out HWW.out
            replace RR : Hid (B15 W0 V166) := by
              unfold Hid; rw [← hW]
              have q := Nat.le_trans HW2.out SB.out
              exact ⟨bset (bset (bset RR.out.b0 q) q) q⟩
            clear GB
            rw [hW]
            clear hW
            refine hK.out _ _ (fun _ => KX.out _ RR.out.b0) ?_
            clear hK
            try simp only [Act.put]
            refine wpAnyT_one (i := 15) (o := { dst := some 10, op := Op.assign (Operand.tmp 154), type := 35, pos := "outright.go:124", after := #[{ on := 12, ground := Ground.data }, { on := 14, ground := Ground.chain }, { on := 0, ground := Ground.phase }, { on := 1, ground := Ground.phase }, { on := 2, ground := Ground.phase }, { on := 3, ground := Ground.phase }, { on := 4, ground := Ground.phase }, { on := 5, ground := Ground.phase }, { on := 6, ground := Ground.phase }, { on := 7, ground := Ground.phase }, { on := 8, ground := Ground.phase }, { on := 9, ground := Ground.phase }, { on := 10, ground := Ground.phase }, { on := 11, ground := Ground.phase }, { on := 12, ground := Ground.phase }, { on := 13, ground := Ground.phase }, { on := 14, ground := Ground.phase }], guard := none }) (by kernel_rfl) rfl (fun K hK => ?_)
            go_simp
            refine hK.out _ _ (fun h => absurd h (by decide)) ?_
            clear hK
            try simp only [Act.put]
            refine wpAnyT_done (by kernel_rfl) ?_ _
            clear DB SB MP RR
            go_wp2_with fail
            go_meet
            exact FP.out
        · skip
          go_simp
          have SC7 : Hid (w13.heap.size ≤ V155.heap.size) := RR.out.ty.1
          obtain ⟨V167, hW⟩ : ∃ V167, V155.alloc (.cells #[.int .i64 (j : Int)] 3) = V167 := ⟨_, rfl⟩
          obtain ⟨b, sz167⟩ := alo1 V155 (.cells #[.int .i64 (j : Int)] 3)
          rw [hW] at b sz167
          have C7 : Hid (V167.cell? ⟨V155.heap.size, 0, none⟩ = some (.int .i64 (j : Int))) := by unfold Hid; rw [← hW]; exact (Cel.new V155 3 [.int .i64 (j : Int)]).at (i := 0) rfl
          replace GB := hid (below_step GB.out b)
          replace DB := hid (DB.out.step b)
          replace RR := hid (RR.out.now b)
          rw [hW]
          clear hW b sz167
          refine hK.out _ _ (fun _ => KX.out _ RR.out.b0) ?_
          clear hK
          try simp only [Act.put]
          refine wpAnyT_one (i := 3) (o := { dst := some 146, op := Op.buildSlice 38 1 #[(0, Operand.tmp 145)], type := 38, pos := "outright.go:124", after := #[{ on := 2, ground := Ground.data }], guard := none }) (by kernel_rfl) rfl (fun K hK => ?_)
          go_simp
          have SC3 : Hid (w13.heap.size ≤ V167.heap.size) := RR.out.ty.1
          obtain ⟨V168, hW⟩ : ∃ V168, V167.alloc (.cells #[.int .i64 (i : Int)] 3) = V168 := ⟨_, rfl⟩
          obtain ⟨b, sz168⟩ := alo1 V167 (.cells #[.int .i64 (i : Int)] 3)
          rw [hW] at b sz168
          have C3 : Hid (V168.cell? ⟨V167.heap.size, 0, none⟩ = some (.int .i64 (i : Int))) := by unfold Hid; rw [← hW]; exact (Cel.new V167 3 [.int .i64 (i : Int)]).at (i := 0) rfl
          replace GB := hid (below_step GB.out b)
          replace C7 := hid (cnow b C7.out)
          replace DB := hid (DB.out.step b)
          replace RR := hid (RR.out.now b)
          rw [hW]
          clear hW b sz168
          refine hK.out _ _ (fun _ => KX.out _ RR.out.b0) ?_
          clear hK
          try simp only [Act.put]
          refine wpAnyT_one (i := 4) (o := { dst := some 147, op := Op.call { callee := Callee.builtin Builtin.append, args := #[Operand.tmp 144, Operand.tmp 146], argTypes := #[38, 38] }, type := 38, pos := "outright.go:124", after := #[{ on := 1, ground := Ground.data }, { on := 3, ground := Ground.data }], guard := none }) (by kernel_rfl) rfl (fun K hK => ?_)
          refine step_append_ivs V168 rfl (.tmp 144) (.tmp 146) rfl W0.heap.size (.slice ar rl capr) rs i rfl RR.out.r V167.heap.size rfl C3.out HLR.out RR.out.b0.size ?_
          intro g1 l1 cap1 w169 hl1 hI hg hb
          replace C7 := hid (cell_grown13 hg.out HVR.out SC7.out C7.out)
          replace DB := hid (DB.out.ty13 (Ty.grown RR.out.r hg.out) (by decide))
          replace RR := hid (RR.out.addR HW0.out hI.out hg.out hb.out)
          replace GB := hid (Below.refl w169.heap.size w169)
          clear hI hg hb C3 hl1
          refine hK.out _ _ (fun _ => KX.out _ RR.out.b0) ?_
          clear hK
          refine wpAnyT_one (i := 8) (o := { dst := some 151, op := Op.call { callee := Callee.builtin Builtin.append, args := #[Operand.tmp 148, Operand.tmp 150], argTypes := #[38, 38] }, type := 38, pos := "outright.go:124", after := #[{ on := 5, ground := Ground.data }, { on := 7, ground := Ground.data }, { on := 4, ground := Ground.chain }], guard := none }) (by kernel_rfl) rfl (fun K hK => ?_)
          refine step_append_ivs w169 rfl (.tmp 148) (.tmp 150) rfl W0.heap.size (.slice ac rl capc) sc j rfl RR.out.c V155.heap.size rfl C7.out HLC.out RR.out.b0.size ?_
          intro g2 l2 cap2 w170 hl2 hI hg hb
          replace DB := hid (DB.out.ty13 (Ty.grown RR.out.c hg.out) (by decide))
          replace RR := hid (RR.out.addC HW0.out hI.out hg.out hb.out)
          replace GB := hid (Below.refl w170.heap.size w170)
          clear hI hg hb C7 hl2
          refine hK.out _ _ (fun _ => KX.out _ RR.out.b0) ?_
          clear hK
          refine wpAnyT_one (i := 9) (o := { dst := some 152, op := Op.call { callee := Callee.value (Operand.func 14), args := #[Operand.tmp 143, Operand.tmp 147, Operand.tmp 151], argTypes := #[24, 38, 38] }, type := 36, pos := "outright.go:124", after := #[{ on := 0, ground := Ground.data }, { on := 4, ground := Ground.data }, { on := 8, ground := Ground.data }, { on := 8, ground := Ground.chain }], guard := none }) (by kernel_rfl) rfl (fun K hK => ?_)
          go_simp
          go_at_call 14
          refine (pick_yes (M0.out.now RR.out.b0) (RR.out.r.in9 (by rw [HL1.out]; omega)) (RR.out.c.in9 (by rw [HL2.out]; omega)) HB1.out HB2.out (by rw [HL1.out]; omega) (by rw [HL2.out]; omega)).mono ?_
          rintro e w171 ⟨vp, rfl, mp, b⟩
          have lz171 := (show Below _ _ _ from b).size
          replace GB := hid (below_step GB.out b)
          rw [HL1.out, HL2.out] at mp
          obtain ⟨ap2, qp2, hvp, -, -⟩ := mp.mx.form
          obtain ⟨lp2, hlp⟩ : ∃ lp2, kk * kk = lp2 := ⟨_, rfl⟩
          rw [hlp] at hvp
          subst hvp
          have MP := hid mp.mx
          clear mp hlp
          replace DB := hid (DB.out.step b)
          replace RR := hid (RR.out.now b)
          clear b
          refine hK.out _ _ (fun _ => KX.out _ RR.out.b0) ?_
          clear hK
          refine wpAnyT_take (i := 10) (oi := { dst := some 142, op := Op.move (Operand.tmp 152), type := 36, pos := "outright.go:124", after := #[{ on := 9, ground := Ground.data }], guard := none }) (v := (.tuple #[(.agg #[.int .i64 (kk : Int), .int .i64 (kk : Int), .slice ap2 lp2 qp2]), (.int .i64 0)])) rfl (by kernel_rfl) (fun _ _ _ h => h) (Or.inl ⟨by rfl, ?_⟩) (KX.out _ RR.out.b0) ?_
          · intro w hSw
            (try dsimp only at hSw)
            go_simp
          simp only [Act.put, List.setIfInBounds_toArray, List.set_cons_zero, List.set_cons_succ]
          refine wpAnyT_take (i := 11) (oi := { dst := some 153, op := Op.extract (Operand.tmp 142) 0, type := 24, pos := "outright.go:124", after := #[{ on := 10, ground := Ground.data }], guard := none }) (v := (.agg #[.int .i64 (kk : Int), .int .i64 (kk : Int), .slice ap2 lp2 qp2])) rfl (by kernel_rfl) (fun _ _ _ h => h) (Or.inl ⟨by rfl, ?_⟩) (KX.out _ RR.out.b0) ?_
          · intro w hSw
            (try dsimp only at hSw)
            go_simp
          simp only [Act.put, List.setIfInBounds_toArray, List.set_cons_zero, List.set_cons_succ]
          refine wpAnyT_take (i := 12) (oi := { dst := some 154, op := Op.extract (Operand.tmp 142) 1, type := 35, pos := "outright.go:124", after := #[{ on := 10, ground := Ground.data }, { on := 14, ground := Ground.gcOnly Departure.lateStores }], guard := none }) (v := (.int .i64 0)) rfl (by kernel_rfl) (fun _ _ _ h => h) (Or.inl ⟨by rfl, ?_⟩) (KX.out _ RR.out.b0) ?_
          · intro w hSw
            (try dsimp only at hSw)
            go_simp
          simp only [Act.put, List.setIfInBounds_toArray, List.set_cons_zero, List.set_cons_succ]
          refine wpAnyT_one (i := 14) (o := { dst := none, op := Op.store 24 (Operand.tmp 16) (Operand.tmp 153), type := 0, pos := "outright.go:124", after := #[{ on := 13, ground := Ground.data }, { on := 11, ground := Ground.data }, { on := 9, ground := Ground.chain }, { on := 0, ground := Ground.phase }, { on := 1, ground := Ground.phase }, { on := 2, ground := Ground.phase }, { on := 3, ground := Ground.phase }, { on := 4, ground := Ground.phase }, { on := 5, ground := Ground.phase }, { on := 6, ground := Ground.phase }, { on := 7, ground := Ground.phase }, { on := 8, ground := Ground.phase }, { on := 9, ground := Ground.phase }, { on := 10, ground := Ground.phase }, { on := 11, ground := Ground.phase }, { on := 12, ground := Ground.textOnly Departure.lateStores }, { on := 13, ground := Ground.phase }], guard := none }) (by kernel_rfl) rfl (fun K hK => ?_)
          have e0 := DB.out.at (i := 0) rfl
          have e1 := DB.out.at (i := 1) rfl
          have e2 := DB.out.at (i := 2) rfl
          have e3 := DB.out.fz 0
          have e4 := DB.out.fz 1
          have e5 := DB.out.fz 2
          go_simp
          clear e0 e1 e2 e3 e4 e5
          obtain ⟨V172, hW⟩ : ∃ V172, (((w171.setCell ⟨D81.heap.size, 0, none⟩ (.int .i64 (kk : Int))).setCell ⟨D81.heap.size, 1, none⟩ (.int .i64 (kk : Int))).setCell ⟨D81.heap.size, 2, none⟩ (.slice ap2 lp2 qp2)) = V172 := ⟨_, rfl⟩
          have FP : Hid (PkN w w13 V172 (.pointer (some ⟨D81.heap.size, 0, none⟩)) (.int .i64 0) kk (pickL r c xs (rs ++ [i]) (sc ++ [j]))) := by
            unfold Hid; rw [← hW]
            exact pkn_put DB.out MP.out RR.out.bw RR.out.ty SB.out HWW.out
          replace RR : Hid (B15 W0 V172) := by
            unfold Hid; rw [← hW]
            have q := Nat.le_trans HW2.out SB.out
            exact ⟨bset (bset (bset RR.out.b0 q) q) q⟩
          clear GB
          rw [hW]
          clear hW
          refine hK.out _ _ (fun _ => KX.out _ RR.out.b0) ?_
          clear hK
          try simp only [Act.put]
          refine wpAnyT_one (i := 15) (o := { dst := some 10, op := Op.assign (Operand.tmp 154), type := 35, pos := "outright.go:124", after := #[{ on := 12, ground := Ground.data }, { on := 14, ground := Ground.chain }, { on := 0, ground := Ground.phase }, { on := 1, ground := Ground.phase }, { on := 2, ground := Ground.phase }, { on := 3, ground := Ground.phase }, { on := 4, ground := Ground.phase }, { on := 5, ground := Ground.phase }, { on := 6, ground := Ground.phase }, { on := 7, ground := Ground.phase }, { on := 8, ground := Ground.phase }, { on := 9, ground := Ground.phase }, { on := 10, ground := Ground.phase }, { on := 11, ground := Ground.phase }, { on := 12, ground := Ground.phase }, { on := 13, ground := Ground.phase }, { on := 14, ground := Ground.phase }], guard := none }) (by kernel_rfl) rfl (fun K hK => ?_)
          go_simp
          refine hK.out _ _ (fun h => absurd h (by decide)) ?_
          clear hK
          try simp only [Act.put]
          refine wpAnyT_done (by kernel_rfl) ?_ _
          clear DB SB MP RR
          go_wp2_with fail
          go_meet
          exact FP.out
    case rest =>
    rename World => Wc
    obtain ⟨bk, ap2, lp2, qp2, rfl, rfl, b, ht, dp, mp⟩ := hcut
    have DE2 : Hid (Duo Wc w10.heap.size (.bool ne) (.slice ae le ce)) := ht.2 _ _ _ _ De.out (by decide)
    have GC := hid b
    have PP := hid dp
    have HLD := hid (ldet_sq mp (by decide))
    have E0 : Hid (det kk (en kk (pickL r c xs (rs ++ [i]) (sc ++ [j]))) = 0) := by unfold Hid; rw [← EKK.out, ← ESC.out]; exact more_det13 HZ.out ERL.out HIR.out HJC.out
    rw [E0.out] at HLD
    clear b ht dp mp E0 De PA MA IR IC G G0 RW
    have cP0 := PP.out.at (i := 0) rfl
    have cP1 := PP.out.at (i := 1) rfl
    have cP2 := PP.out.at (i := 2) rfl
    go_wp2_with fail
    clear cP0 cP1 cP2
    refine HLD.out.mono ?_
    rintro e w20 ⟨nf, af, lf, cf, rfl, m, b⟩
    have DE3 := hid (DE2.out.step b)
    have y0 := DE3.out.c0
    have y1 := DE3.out.c1
    have f0 := DE3.out.fz 0
    have f1 := DE3.out.fz 1
    obtain ⟨V3, hV3⟩ : ∃ V3, (w20.setCell ⟨w10.heap.size, 0, none⟩ (.bool nf)).setCell ⟨w10.heap.size, 1, none⟩ (.slice af lf cf) = V3 := ⟨_, rfl⟩
    have ty3 := DE3.out.ty13 (.bool nf) (.slice af lf cf)
    rw [hV3] at ty3
    have DF : Hid (Duo V3 w10.heap.size (.bool nf) (.slice af lf cf)) := by unfold Hid; rw [← hV3]; exact DE3.out.set _ _
    have ZF := hid ((m.mono (Nat.zero_le _)).ty ty3 (by decide))
    have BV3 : Hid (Below w.heap.size w V3) := by unfold Hid; rw [← hV3]; exact bset (bset (below_step GC.out b) LZB.out) LZB.out
    have EV := hid hV3
    clear hV3 ty3 m b HLD DE2 DE3
    go_upto_region 17 with fail
    rw [EV.out]
    clear EV y0 y1 f0 f1
    have i5 := DF.out.c0
    have i6 := DF.out.c1
    go_wp2_with fail
    clear i5 i6
    refine (sign_z ZF.out.zi).mono ?_
    rintro e w21 ⟨rfl, b⟩
    rw [cmpI_self]
    have FIN : Hid (Tru w (.returned (.bool true)) w21) := ⟨rfl, below_step BV3.out b⟩
    clear b
    go_wp2
    go_ret
    exact FIN.out
  · have hsa2 := hid hsa
    refine (core_un hsa).mono ?_
    rintro e w14 ⟨rfl, b⟩
    replace PA := hid (PA.out.step b)
    replace RA := hid (RA.out.now b)
    replace G := hid (below_step G.out b)
    clear b
    obtain ⟨V15, hV⟩ : ∃ V15, w14.alloc (duo (.bool false) (.slice none 0 0)) = V15 := ⟨_, rfl⟩
    obtain ⟨b, sz15⟩ := alo1 w14 (duo (.bool false) (.slice none 0 0))
    rw [hV] at b sz15
    replace PA := hid (PA.out.step b)
    replace RA := hid (RA.out.now b)
    replace G := hid (below_step G.out b)
    clear b sz15
    have Dd : Hid (Duo V15 w14.heap.size (.bool false) (.slice none 0 0)) := by unfold Hid; rw [← hV]; exact Duo.new w14 _ _
    have cA0 := PA.out.at (i := 0) rfl
    have cA1 := PA.out.at (i := 1) rfl
    have cA2 := PA.out.at (i := 2) rfl
    rw [← hV] at cA0 cA1 cA2
    have EV : Hid (w14.alloc (duo (.bool false) (.slice none 0 0)) = V15) := hV
    clear hV
    go_wp2_with fail
    rw [EV.out]
    clear EV
    clear cA0 cA1 cA2
    refine (rank_un hsa).mono ?_
    rintro e w16 ⟨rfl, b⟩
    replace PA := hid (PA.out.step b)
    replace RA := hid (RA.out.now b)
    replace Dd := hid (Dd.out.step b)
    replace G := hid (below_step G.out b)
    clear b
    go_wp2_with fail
    refine (awake13 _).mono ?_
    rintro e w17 ⟨rfl, b⟩
    replace PA := hid (PA.out.step b)
    replace RA := hid (RA.out.now b)
    replace Dd := hid (Dd.out.step b)
    replace G := hid (below_step G.out b)
    clear b
    have cA0 := PA.out.at (i := 0) rfl
    have cA1 := PA.out.at (i := 1) rfl
    have cA2 := PA.out.at (i := 2) rfl
    go_wp2_with fail
    clear cA0 cA1 cA2
    refine (check_no hsa).mono ?_
    rintro e w18 ⟨rfl, b⟩
    replace PA := hid (PA.out.step b)
    replace RA := hid (RA.out.now b)
    replace Dd := hid (Dd.out.step b)
    replace G := hid (below_step G.out b)
    clear b
    have cd0 := Dd.out.c0
    have cd1 := Dd.out.c1
    go_wp2_with fail
    clear cd0 cd1
    refine (sign_z (zm_nil 0 _ 0).zi).mono ?_
    rintro e w19 ⟨rfl, b⟩
    replace PA := hid (PA.out.step b)
    replace RA := hid (RA.out.now b)
    replace Dd := hid (Dd.out.step b)
    replace G := hid (below_step G.out b)
    rw [cmpI_self]
    clear b
    go_wp2
    go_ret
    exact ⟨rfl, G.out⟩
end Go.Proofs.YtlhbcdapinacgaaGreat
