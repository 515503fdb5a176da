/-
  Of8: Of.
-/
import Derived.Test.YtcceoildbnoliaaGreatQSl17ToCf8
import Derived.Test.YtcceoildbnoliaaGreatQGcd6
import Derived.Test.YtcceoildbnoliaaGreatQTailToMWord
namespace Go.Proofs.YtcceoildbnoliaaGreat
open Go.RowKit
set_option linter.unusedVariables false

set_option maxHeartbeats 6400000 in
set_option maxRecDepth 100000 in
theorem fof_pos {w : World} {vn vd : Value} {N D : Int} {k : Nat} (hn : Zi w vn N k) (hd : Zi w vd D k) (hk : k ≤ 68719476736) (hD : 0 < D) :
    Calls Tryz.prog 52 #[vn, vd] w (GivesF w (Rat.divInt N D) k) := by
  have HD := hid hD
  clear hD
  have HS : Hid (∀ w' v, Zi w' v D k → Calls Tryz.prog 22 #[v] w' fun e w'' => e = .returned (.int .i64 1) ∧ Below w'.heap.size w' w'') := fun w' v h => by
    have q := sign_z h
    rw [show cmpI D 0 = 1 from by have := HD.out; rcases cmp_cases D 0 with ⟨_, h⟩ | ⟨_, h⟩ | ⟨_, h⟩ <;> omega] at q
    exact q
  have q0 : ((1 : Int) == 0) = false := rfl
  have q1 : ¬ ((1 : Int) < 0) := by decide
  obtain ⟨⟨g0, gn, gd⟩, pn, pd⟩ := divInt_parts (N := N) (D := D) (by have := HD.out; omega) HD.out
  have G0 := hid g0
  have GN := hid gn
  have GD := hid gd
  have PN := hid pn
  have PD := hid pd
  clear g0 gn gd pn pd
  have zn0 := hn
  obtain ⟨nn, xn, adn, cn, rfl, -, -, -⟩ := hn
  have zd0 := hd
  obtain ⟨nd, xd, add, cd, rfl, -, -, -⟩ := hd
  obtain ⟨W0, hW⟩ : ∃ W0, ((w.alloc (duo (.bool nn) (.slice adn xn.length cn))).alloc (duo (.bool nd) (.slice add xd.length cd))).alloc (.cells #[(.bool false), (.slice none 0 0), (.bool false), (.slice none 0 0)] 47) = W0 := ⟨_, rfl⟩
  obtain ⟨b0, sz0⟩ := alloc3 w (duo (.bool nn) (.slice adn xn.length cn)) (duo (.bool nd) (.slice add xd.length cd)) (.cells #[(.bool false), (.slice none 0 0), (.bool false), (.slice none 0 0)] 47)
  rw [hW] at b0 sz0
  have Pn : Hid (Duo W0 (w.heap.size) (.bool nn) (.slice adn xn.length cn)) := by unfold Hid; rw [← hW]; exact duo_late (duo_late (duo_at (by simp)) _) _
  have Pd : Hid (Duo W0 (w.heap.size + 1) (.bool nd) (.slice add xd.length cd)) := by unfold Hid; rw [← hW]; exact duo_late (duo_at (by simp)) _
  have PR : Hid (Cel W0 (w.heap.size + 1 + 1) 47 [(.bool false), (.slice none 0 0), (.bool false), (.slice none 0 0)]) := by unfold Hid; rw [← hW]; exact cel_at (by simp)
  have Zn := hid (zn0.now b0)
  clear zn0
  have Zd := hid (zd0.now b0)
  clear zd0
  have G := hid b0
  clear b0
  have EW := hid hW
  clear hW
  go_enter Tryz.func52, Tryz.ntmps52
  have cd0 := Pd.out.c0
  have cd1 := Pd.out.c1
  rw [← EW.out] at cd0 cd1
  go_wp2_with fail
  rw [EW.out]
  clear EW
  clear cd0 cd1
  refine (HS.out _ _ Zd.out).mono ?_
  rintro e w1 ⟨rfl, b⟩
  replace Zn := hid (Zn.out.now b)
  replace Zd := hid (Zd.out.now b)
  replace Pn := hid (Pn.out.step b)
  replace Pd := hid (Pd.out.step b)
  replace PR := hid (PR.out.step b)
  replace G := hid (below_step G.out b)
  have lz2 := (show Below _ _ _ from b).size
  clear b 
  have cn0 := Pn.out.c0
  have cn1 := Pn.out.c1
  have cd0 := Pd.out.c0
  have cd1 := Pd.out.c1
  go_wp2_with fail
  clear cn0 cn1 cd0 cd1
  refine (gcd_z Zn.out Zd.out hk).mono ?_
  rintro e w3 ⟨r0, rfl, m0, b⟩
  obtain ⟨ng, xg, adg, qg, rfl, -, -, -, -, -⟩ := id m0
  replace Zn := hid (Zn.out.now b)
  replace Zd := hid (Zd.out.now b)
  replace Pn := hid (Pn.out.step b)
  replace Pd := hid (Pd.out.step b)
  replace PR := hid (PR.out.step b)
  replace G := hid (below_step G.out b)
  have lz4 := (show Below _ _ _ from b).size
  have Zg := hid m0
  clear b m0
  obtain ⟨V5, hW⟩ : ∃ V5, w3.alloc (duo (.bool ng) (.slice adg xg.length qg)) = V5 := ⟨_, rfl⟩
  obtain ⟨kW, sz5⟩ := alloc1 w3 (duo (.bool ng) (.slice adg xg.length qg))
  rw [hW] at kW sz5
  replace Zn := hid (Zn.out.now kW)
  replace Zd := hid (Zd.out.now kW)
  replace Zg := hid (Zg.out.now kW)
  replace Pn := hid (Pn.out.step kW)
  replace Pd := hid (Pd.out.step kW)
  replace PR := hid (PR.out.step kW)
  replace G := hid (below_step G.out kW)
  have lz6 := (show Below _ _ _ from kW).size
  have PG1 : Hid (Duo V5 (w3.heap.size) (.bool ng) (.slice adg xg.length qg)) := by unfold Hid; rw [← hW]; exact duo_at (by simp)
  clear kW
  have cd0 := Pd.out.c0
  have cd1 := Pd.out.c1
  rw [← hW] at cd0 cd1
  have EW := hid hW
  clear hW
  go_wp2_with fail
  rw [EW.out]
  clear EW
  clear cd0 cd1
  refine (HS.out _ _ Zd.out).mono ?_
  rintro e w7 ⟨rfl, b⟩
  replace Zn := hid (Zn.out.now b)
  replace Zd := hid (Zd.out.now b)
  replace Zg := hid (Zg.out.now b)
  replace Pn := hid (Pn.out.step b)
  replace Pd := hid (Pd.out.step b)
  replace PR := hid (PR.out.step b)
  replace PG1 := hid (PG1.out.step b)
  replace G := hid (below_step G.out b)
  have lz8 := (show Below _ _ _ from b).size
  clear b 
  have cn0 := Pn.out.c0
  have cn1 := Pn.out.c1
  have cG10 := PG1.out.c0
  have cG11 := PG1.out.c1
  go_wp2_with fail
  clear cn0 cn1 cG10 cG11
  refine (exact_yes Zn.out Zg.out.zi G0.out (by omega) (by omega) GN.out).mono ?_
  rintro e w9 ⟨r0, rfl, m0, b⟩
  obtain ⟨np, xp, adp, qp, rfl, -, -, -, -, -⟩ := id m0
  replace Zn := hid (Zn.out.now b)
  replace Zd := hid (Zd.out.now b)
  replace Zg := hid (Zg.out.now b)
  replace Pn := hid (Pn.out.step b)
  replace Pd := hid (Pd.out.step b)
  replace PR := hid (PR.out.step b)
  replace PG1 := hid (PG1.out.step b)
  replace G := hid (below_step G.out b)
  have lz10 := (show Below _ _ _ from b).size
  have Zp := hid m0
  clear b m0
  have cn0 := Pn.out.c0
  have cn1 := Pn.out.c1
  have fn0 := Pn.out.fz 0
  have fn1 := Pn.out.fz 1
  obtain ⟨V11, hW⟩ : ∃ V11, (w9.setCell ⟨w.heap.size, 0, none⟩ (.bool np)).setCell ⟨w.heap.size, 1, none⟩ (.slice adp xp.length qp) = V11 := ⟨_, rfl⟩
  replace Zn := hid ((Zn.out).wk ((Pn.out).wk (.bool np) (.slice adp xp.length qp)))
  replace Zd := hid ((Zd.out).wk ((Pn.out).wk (.bool np) (.slice adp xp.length qp)))
  replace Zg := hid ((Zg.out).box (Pn.out) (.bool np) (.slice adp xp.length qp))
  replace Zp := hid ((Zp.out).box (Pn.out) (.bool np) (.slice adp xp.length qp))
  replace Pn := hid ((Pn.out).set (.bool np) (.slice adp xp.length qp))
  replace Pd := hid ((Pd.out).box (b' := w.heap.size) (by omega) (.bool np) (.slice adp xp.length qp))
  replace PR := hid ((PR.out).away2 (b' := w.heap.size) (by omega) (.bool np) (.slice adp xp.length qp))
  replace PG1 := hid ((PG1.out).box (b' := w.heap.size) (by omega) (.bool np) (.slice adp xp.length qp))
  replace G : Hid (Below w.heap.size w (((w9.setCell ⟨w.heap.size, 0, none⟩ (.bool np)).setCell ⟨w.heap.size, 1, none⟩ (.slice adp xp.length qp)))) := bset (bset (G.out) (by omega)) (by omega)
  have sz11 : V11.heap.size = w9.heap.size := by rw [← hW]; simp
  rw [hW] at Zn Zd Zg Zp Pn Pd PR PG1 G
  skip
  have cd0 := Pd.out.c0
  have cd1 := Pd.out.c1
  have cG10 := PG1.out.c0
  have cG11 := PG1.out.c1
  rw [← hW] at cd0 cd1 cG10 cG11
  have EW := hid hW
  clear hW
  go_wp2_with fail
  rw [EW.out]
  clear EW
  clear cd0 cd1 cG10 cG11
  try clear cn0 cn1 fn0 fn1
  refine (exact_yes Zd.out Zg.out.zi G0.out (by omega) (by omega) GD.out).mono ?_
  rintro e w12 ⟨r0, rfl, m0, b⟩
  obtain ⟨nq, xq, adq, qq, rfl, -, -, -, -, -⟩ := id m0
  replace Zn := hid (Zn.out.now b)
  replace Zd := hid (Zd.out.now b)
  replace Zg := hid (Zg.out.now b)
  replace Zp := hid (Zp.out.now b)
  replace Pn := hid (Pn.out.step b)
  replace Pd := hid (Pd.out.step b)
  replace PR := hid (PR.out.step b)
  replace PG1 := hid (PG1.out.step b)
  replace G := hid (below_step G.out b)
  have lz13 := (show Below _ _ _ from b).size
  have Zq := hid m0
  clear b m0
  have cd0 := Pd.out.c0
  have cd1 := Pd.out.c1
  have fd0 := Pd.out.fz 0
  have fd1 := Pd.out.fz 1
  obtain ⟨V14, hW⟩ : ∃ V14, (w12.setCell ⟨w.heap.size + 1, 0, none⟩ (.bool nq)).setCell ⟨w.heap.size + 1, 1, none⟩ (.slice adq xq.length qq) = V14 := ⟨_, rfl⟩
  replace Zn := hid ((Zn.out).wk ((Pd.out).wk (.bool nq) (.slice adq xq.length qq)))
  replace Zd := hid ((Zd.out).wk ((Pd.out).wk (.bool nq) (.slice adq xq.length qq)))
  replace Zg := hid ((Zg.out).box (Pd.out) (.bool nq) (.slice adq xq.length qq))
  replace Zp := hid ((Zp.out).box (Pd.out) (.bool nq) (.slice adq xq.length qq))
  replace Zq := hid ((Zq.out).box (Pd.out) (.bool nq) (.slice adq xq.length qq))
  replace Pn := hid ((Pn.out).box (b' := w.heap.size + 1) (by omega) (.bool nq) (.slice adq xq.length qq))
  replace Pd := hid ((Pd.out).set (.bool nq) (.slice adq xq.length qq))
  replace PR := hid ((PR.out).away2 (b' := w.heap.size + 1) (by omega) (.bool nq) (.slice adq xq.length qq))
  replace PG1 := hid ((PG1.out).box (b' := w.heap.size + 1) (by omega) (.bool nq) (.slice adq xq.length qq))
  replace G : Hid (Below w.heap.size w (((w12.setCell ⟨w.heap.size + 1, 0, none⟩ (.bool nq)).setCell ⟨w.heap.size + 1, 1, none⟩ (.slice adq xq.length qq)))) := bset (bset (G.out) (by omega)) (by omega)
  have sz14 : V14.heap.size = w12.heap.size := by rw [← hW]; simp
  rw [hW] at Zn Zd Zg Zp Zq Pn Pd PR PG1 G
  rw [PN.out] at Zp
  rw [PD.out] at Zq
  have cn0 := Pn.out.c0
  have cn1 := Pn.out.c1
  have cd0 := Pd.out.c0
  have cd1 := Pd.out.c1
  rw [← hW] at cn0 cn1 cd0 cd1
  have cR0 := (PR.out.at (i := 0) rfl)
  have cR1 := (PR.out.at (i := 1) rfl)
  have cR2 := (PR.out.at (i := 2) rfl)
  have cR3 := (PR.out.at (i := 3) rfl)
  rw [← hW] at cR0 cR1 cR2 cR3
  have fR0 := PR.out.fz 0
  have fR1 := PR.out.fz 1
  have fR2 := PR.out.fz 2
  have fR3 := PR.out.fz 3
  rw [← hW] at fR0 fR1 fR2 fR3
  have EW := hid hW
  clear hW
  go_wp2
  rw [EW.out]
  exact bodyPost_ret (fback Tryz.results52 (PR.out.put4 _ _ _ _) _ (by rfl) (by rfl)) rfl (gf_end PR.out Zp.out Zq.out G.out (by omega) (by omega) (by omega))

set_option maxHeartbeats 6400000 in
set_option maxRecDepth 100000 in
theorem fof_neg {w : World} {vn vd : Value} {N D : Int} {k : Nat} (hn : Zi w vn N k) (hd : Zi w vd D k) (hk : k ≤ 68719476736) (hD : D < 0) :
    Calls Tryz.prog 52 #[vn, vd] w (GivesF w (Rat.divInt N D) k) := by
  have HD := hid hD
  clear hD
  have HS : Hid (∀ w' v, Zi w' v D k → Calls Tryz.prog 22 #[v] w' fun e w'' => e = .returned (.int .i64 (-1)) ∧ Below w'.heap.size w' w'') := fun w' v h => by
    have q := sign_z h
    rw [show cmpI D 0 = (-1) from by have := HD.out; rcases cmp_cases D 0 with ⟨_, h⟩ | ⟨_, h⟩ | ⟨_, h⟩ <;> omega] at q
    exact q
  have q0 : (((-1) : Int) == 0) = false := rfl
  have q1 : ((-1 : Int) < 0) := by decide
  obtain ⟨⟨g0, gn, gd⟩, pn, pd⟩ := divInt_parts_neg (N := N) HD.out
  have G0 := hid g0
  have GN := hid gn
  have GD := hid gd
  have PN := hid pn
  have PD := hid pd
  clear g0 gn gd pn pd
  have zn0 := hn
  obtain ⟨nn, xn, adn, cn, rfl, -, -, -⟩ := hn
  have zd0 := hd
  obtain ⟨nd, xd, add, cd, rfl, -, -, -⟩ := hd
  obtain ⟨W0, hW⟩ : ∃ W0, ((w.alloc (duo (.bool nn) (.slice adn xn.length cn))).alloc (duo (.bool nd) (.slice add xd.length cd))).alloc (.cells #[(.bool false), (.slice none 0 0), (.bool false), (.slice none 0 0)] 47) = W0 := ⟨_, rfl⟩
  obtain ⟨b0, sz0⟩ := alloc3 w (duo (.bool nn) (.slice adn xn.length cn)) (duo (.bool nd) (.slice add xd.length cd)) (.cells #[(.bool false), (.slice none 0 0), (.bool false), (.slice none 0 0)] 47)
  rw [hW] at b0 sz0
  have Pn : Hid (Duo W0 (w.heap.size) (.bool nn) (.slice adn xn.length cn)) := by unfold Hid; rw [← hW]; exact duo_late (duo_late (duo_at (by simp)) _) _
  have Pd : Hid (Duo W0 (w.heap.size + 1) (.bool nd) (.slice add xd.length cd)) := by unfold Hid; rw [← hW]; exact duo_late (duo_at (by simp)) _
  have PR : Hid (Cel W0 (w.heap.size + 1 + 1) 47 [(.bool false), (.slice none 0 0), (.bool false), (.slice none 0 0)]) := by unfold Hid; rw [← hW]; exact cel_at (by simp)
  have Zn := hid (zn0.now b0)
  clear zn0
  have Zd := hid (zd0.now b0)
  clear zd0
  have G := hid b0
  clear b0
  have EW := hid hW
  clear hW
  go_enter Tryz.func52, Tryz.ntmps52
  have cd0 := Pd.out.c0
  have cd1 := Pd.out.c1
  rw [← EW.out] at cd0 cd1
  go_wp2_with fail
  rw [EW.out]
  clear EW
  clear cd0 cd1
  refine (HS.out _ _ Zd.out).mono ?_
  rintro e w1 ⟨rfl, b⟩
  replace Zn := hid (Zn.out.now b)
  replace Zd := hid (Zd.out.now b)
  replace Pn := hid (Pn.out.step b)
  replace Pd := hid (Pd.out.step b)
  replace PR := hid (PR.out.step b)
  replace G := hid (below_step G.out b)
  have lz2 := (show Below _ _ _ from b).size
  clear b 
  have cn0 := Pn.out.c0
  have cn1 := Pn.out.c1
  have cd0 := Pd.out.c0
  have cd1 := Pd.out.c1
  go_wp2_with fail
  clear cn0 cn1 cd0 cd1
  refine (gcd_z Zn.out Zd.out hk).mono ?_
  rintro e w3 ⟨r0, rfl, m0, b⟩
  obtain ⟨ng, xg, adg, qg, rfl, -, -, -, -, -⟩ := id m0
  replace Zn := hid (Zn.out.now b)
  replace Zd := hid (Zd.out.now b)
  replace Pn := hid (Pn.out.step b)
  replace Pd := hid (Pd.out.step b)
  replace PR := hid (PR.out.step b)
  replace G := hid (below_step G.out b)
  have lz4 := (show Below _ _ _ from b).size
  have Zg := hid m0
  clear b m0
  obtain ⟨V5, hW⟩ : ∃ V5, w3.alloc (duo (.bool ng) (.slice adg xg.length qg)) = V5 := ⟨_, rfl⟩
  obtain ⟨kW, sz5⟩ := alloc1 w3 (duo (.bool ng) (.slice adg xg.length qg))
  rw [hW] at kW sz5
  replace Zn := hid (Zn.out.now kW)
  replace Zd := hid (Zd.out.now kW)
  replace Zg := hid (Zg.out.now kW)
  replace Pn := hid (Pn.out.step kW)
  replace Pd := hid (Pd.out.step kW)
  replace PR := hid (PR.out.step kW)
  replace G := hid (below_step G.out kW)
  have lz6 := (show Below _ _ _ from kW).size
  have PG1 : Hid (Duo V5 (w3.heap.size) (.bool ng) (.slice adg xg.length qg)) := by unfold Hid; rw [← hW]; exact duo_at (by simp)
  clear kW
  have cd0 := Pd.out.c0
  have cd1 := Pd.out.c1
  rw [← hW] at cd0 cd1
  have EW := hid hW
  clear hW
  go_wp2_with fail
  rw [EW.out]
  clear EW
  clear cd0 cd1
  refine (HS.out _ _ Zd.out).mono ?_
  rintro e w7 ⟨rfl, b⟩
  replace Zn := hid (Zn.out.now b)
  replace Zd := hid (Zd.out.now b)
  replace Zg := hid (Zg.out.now b)
  replace Pn := hid (Pn.out.step b)
  replace Pd := hid (Pd.out.step b)
  replace PR := hid (PR.out.step b)
  replace PG1 := hid (PG1.out.step b)
  replace G := hid (below_step G.out b)
  have lz8 := (show Below _ _ _ from b).size
  clear b 
  have cG10 := PG1.out.c0
  have cG11 := PG1.out.c1
  go_wp2_with fail
  clear cG10 cG11
  refine (neg_z Zg.out.zi).mono ?_
  rintro e w9 ⟨r0, rfl, m0, b⟩
  obtain ⟨nh, xh, adh, qh, rfl, -, -, -, -, -⟩ := id m0
  replace Zn := hid (Zn.out.now b)
  replace Zd := hid (Zd.out.now b)
  replace Zg := hid (Zg.out.now b)
  replace Pn := hid (Pn.out.step b)
  replace Pd := hid (Pd.out.step b)
  replace PR := hid (PR.out.step b)
  replace PG1 := hid (PG1.out.step b)
  replace G := hid (below_step G.out b)
  have lz10 := (show Below _ _ _ from b).size
  have Zh := hid m0
  clear b m0
  have cG10 := PG1.out.c0
  have cG11 := PG1.out.c1
  have fG10 := PG1.out.fz 0
  have fG11 := PG1.out.fz 1
  obtain ⟨V11, hW⟩ : ∃ V11, (w9.setCell ⟨w3.heap.size, 0, none⟩ (.bool nh)).setCell ⟨w3.heap.size, 1, none⟩ (.slice adh xh.length qh) = V11 := ⟨_, rfl⟩
  replace Zn := hid ((Zn.out).wk ((PG1.out).wk (.bool nh) (.slice adh xh.length qh)))
  replace Zd := hid ((Zd.out).wk ((PG1.out).wk (.bool nh) (.slice adh xh.length qh)))
  replace Zg := hid ((Zg.out).box (PG1.out) (.bool nh) (.slice adh xh.length qh))
  replace Zh := hid ((Zh.out).box (PG1.out) (.bool nh) (.slice adh xh.length qh))
  replace Pn := hid ((Pn.out).box (b' := w3.heap.size) (by omega) (.bool nh) (.slice adh xh.length qh))
  replace Pd := hid ((Pd.out).box (b' := w3.heap.size) (by omega) (.bool nh) (.slice adh xh.length qh))
  replace PR := hid ((PR.out).away2 (b' := w3.heap.size) (by omega) (.bool nh) (.slice adh xh.length qh))
  replace PG1 := hid ((PG1.out).set (.bool nh) (.slice adh xh.length qh))
  replace G : Hid (Below w.heap.size w (((w9.setCell ⟨w3.heap.size, 0, none⟩ (.bool nh)).setCell ⟨w3.heap.size, 1, none⟩ (.slice adh xh.length qh)))) := bset (bset (G.out) (by omega)) (by omega)
  have sz11 : V11.heap.size = w9.heap.size := by rw [← hW]; simp
  rw [hW] at Zn Zd Zg Zh Pn Pd PR PG1 G
  skip
  have cn0 := Pn.out.c0
  have cn1 := Pn.out.c1
  have cG10 := PG1.out.c0
  have cG11 := PG1.out.c1
  rw [← hW] at cn0 cn1 cG10 cG11
  have EW := hid hW
  clear hW
  go_wp2_with fail
  rw [EW.out]
  clear EW
  clear cn0 cn1 cG10 cG11
  try clear cG10 cG11 fG10 fG11
  refine (exact_yes Zn.out Zh.out.zi G0.out (by omega) (by omega) GN.out).mono ?_
  rintro e w12 ⟨r0, rfl, m0, b⟩
  obtain ⟨np, xp, adp, qp, rfl, -, -, -, -, -⟩ := id m0
  replace Zn := hid (Zn.out.now b)
  replace Zd := hid (Zd.out.now b)
  replace Zg := hid (Zg.out.now b)
  replace Zh := hid (Zh.out.now b)
  replace Pn := hid (Pn.out.step b)
  replace Pd := hid (Pd.out.step b)
  replace PR := hid (PR.out.step b)
  replace PG1 := hid (PG1.out.step b)
  replace G := hid (below_step G.out b)
  have lz13 := (show Below _ _ _ from b).size
  have Zp := hid m0
  clear b m0
  have cn0 := Pn.out.c0
  have cn1 := Pn.out.c1
  have fn0 := Pn.out.fz 0
  have fn1 := Pn.out.fz 1
  obtain ⟨V14, hW⟩ : ∃ V14, (w12.setCell ⟨w.heap.size, 0, none⟩ (.bool np)).setCell ⟨w.heap.size, 1, none⟩ (.slice adp xp.length qp) = V14 := ⟨_, rfl⟩
  replace Zn := hid ((Zn.out).wk ((Pn.out).wk (.bool np) (.slice adp xp.length qp)))
  replace Zd := hid ((Zd.out).wk ((Pn.out).wk (.bool np) (.slice adp xp.length qp)))
  replace Zg := hid ((Zg.out).box (Pn.out) (.bool np) (.slice adp xp.length qp))
  replace Zh := hid ((Zh.out).box (Pn.out) (.bool np) (.slice adp xp.length qp))
  replace Zp := hid ((Zp.out).box (Pn.out) (.bool np) (.slice adp xp.length qp))
  replace Pn := hid ((Pn.out).set (.bool np) (.slice adp xp.length qp))
  replace Pd := hid ((Pd.out).box (b' := w.heap.size) (by omega) (.bool np) (.slice adp xp.length qp))
  replace PR := hid ((PR.out).away2 (b' := w.heap.size) (by omega) (.bool np) (.slice adp xp.length qp))
  replace PG1 := hid ((PG1.out).box (b' := w.heap.size) (by omega) (.bool np) (.slice adp xp.length qp))
  replace G : Hid (Below w.heap.size w (((w12.setCell ⟨w.heap.size, 0, none⟩ (.bool np)).setCell ⟨w.heap.size, 1, none⟩ (.slice adp xp.length qp)))) := bset (bset (G.out) (by omega)) (by omega)
  have sz14 : V14.heap.size = w12.heap.size := by rw [← hW]; simp
  rw [hW] at Zn Zd Zg Zh Zp Pn Pd PR PG1 G
  skip
  have cd0 := Pd.out.c0
  have cd1 := Pd.out.c1
  have cG10 := PG1.out.c0
  have cG11 := PG1.out.c1
  rw [← hW] at cd0 cd1 cG10 cG11
  have EW := hid hW
  clear hW
  go_wp2_with fail
  rw [EW.out]
  clear EW
  clear cd0 cd1 cG10 cG11
  try clear cn0 cn1 fn0 fn1
  refine (exact_yes Zd.out Zh.out.zi G0.out (by omega) (by omega) GD.out).mono ?_
  rintro e w15 ⟨r0, rfl, m0, b⟩
  obtain ⟨nq, xq, adq, qq, rfl, -, -, -, -, -⟩ := id m0
  replace Zn := hid (Zn.out.now b)
  replace Zd := hid (Zd.out.now b)
  replace Zg := hid (Zg.out.now b)
  replace Zh := hid (Zh.out.now b)
  replace Zp := hid (Zp.out.now b)
  replace Pn := hid (Pn.out.step b)
  replace Pd := hid (Pd.out.step b)
  replace PR := hid (PR.out.step b)
  replace PG1 := hid (PG1.out.step b)
  replace G := hid (below_step G.out b)
  have lz16 := (show Below _ _ _ from b).size
  have Zq := hid m0
  clear b m0
  have cd0 := Pd.out.c0
  have cd1 := Pd.out.c1
  have fd0 := Pd.out.fz 0
  have fd1 := Pd.out.fz 1
  obtain ⟨V17, hW⟩ : ∃ V17, (w15.setCell ⟨w.heap.size + 1, 0, none⟩ (.bool nq)).setCell ⟨w.heap.size + 1, 1, none⟩ (.slice adq xq.length qq) = V17 := ⟨_, rfl⟩
  replace Zn := hid ((Zn.out).wk ((Pd.out).wk (.bool nq) (.slice adq xq.length qq)))
  replace Zd := hid ((Zd.out).wk ((Pd.out).wk (.bool nq) (.slice adq xq.length qq)))
  replace Zg := hid ((Zg.out).box (Pd.out) (.bool nq) (.slice adq xq.length qq))
  replace Zh := hid ((Zh.out).box (Pd.out) (.bool nq) (.slice adq xq.length qq))
  replace Zp := hid ((Zp.out).box (Pd.out) (.bool nq) (.slice adq xq.length qq))
  replace Zq := hid ((Zq.out).box (Pd.out) (.bool nq) (.slice adq xq.length qq))
  replace Pn := hid ((Pn.out).box (b' := w.heap.size + 1) (by omega) (.bool nq) (.slice adq xq.length qq))
  replace Pd := hid ((Pd.out).set (.bool nq) (.slice adq xq.length qq))
  replace PR := hid ((PR.out).away2 (b' := w.heap.size + 1) (by omega) (.bool nq) (.slice adq xq.length qq))
  replace PG1 := hid ((PG1.out).box (b' := w.heap.size + 1) (by omega) (.bool nq) (.slice adq xq.length qq))
  replace G : Hid (Below w.heap.size w (((w15.setCell ⟨w.heap.size + 1, 0, none⟩ (.bool nq)).setCell ⟨w.heap.size + 1, 1, none⟩ (.slice adq xq.length qq)))) := bset (bset (G.out) (by omega)) (by omega)
  have sz17 : V17.heap.size = w15.heap.size := by rw [← hW]; simp
  rw [hW] at Zn Zd Zg Zh Zp Zq Pn Pd PR PG1 G
  rw [PN.out] at Zp
  rw [PD.out] at Zq
  have cn0 := Pn.out.c0
  have cn1 := Pn.out.c1
  have cd0 := Pd.out.c0
  have cd1 := Pd.out.c1
  rw [← hW] at cn0 cn1 cd0 cd1
  have cR0 := (PR.out.at (i := 0) rfl)
  have cR1 := (PR.out.at (i := 1) rfl)
  have cR2 := (PR.out.at (i := 2) rfl)
  have cR3 := (PR.out.at (i := 3) rfl)
  rw [← hW] at cR0 cR1 cR2 cR3
  have fR0 := PR.out.fz 0
  have fR1 := PR.out.fz 1
  have fR2 := PR.out.fz 2
  have fR3 := PR.out.fz 3
  rw [← hW] at fR0 fR1 fR2 fR3
  have EW := hid hW
  clear hW
  go_wp2
  rw [EW.out]
  exact bodyPost_ret (fback Tryz.results52 (PR.out.put4 _ _ _ _) _ (by rfl) (by rfl)) rfl (gf_end PR.out Zp.out Zq.out G.out (by omega) (by omega) (by omega))

theorem fof_z {w : World} {vn vd : Value} {N D : Int} {k : Nat} (hn : Zi w vn N k) (hd : Zi w vd D k) (hk : k ≤ 68719476736) (hD : D ≠ 0) :
    Calls Tryz.prog 52 #[vn, vd] w (GivesF w (Rat.divInt N D) k) := by
  rcases Int.lt_or_gt_of_ne hD with h | h
  · exact fof_neg hn hd hk h
  · exact fof_pos hn hd hk h
end Go.Proofs.YtcceoildbnoliaaGreat
