/-
  QRd8ToRec8: Rd8, Rec8, joined.
-/
import Derived.Test.YtaoammmnpfbdfaaQLaw8
import Derived.Test.YtaoammmnpfbdfaaQBd8
import Derived.Test.YtaoammmnpfbdfaaQFi8

/- Rd8 -/
namespace Go.Proofs.Ytaoammmnpfbdfaa
open Go.RowKit
set_option linter.unusedVariables false

theorem den_ne (q : Rat) : (q.den : Int) ≠ 0 := by
  have := q.den_pos
  omega
theorem cross_q {q : Rat} {N D : Int} (hD : D ≠ 0) (e : q = Rat.divInt N D) : q.num * D = N * (q.den : Int) := by
  have h : Rat.divInt q.num (q.den : Int) = Rat.divInt N D := (Rat.num_divInt_den q).trans e
  exact (Rat.divInt_eq_divInt_iff (den_ne q) hD).1 h
theorem zi_zero (w : World) (k : Nat) : Zi w (.agg #[.bool false, .slice none 0 0]) 0 k := (zm_nil w.heap.size w k).zi
theorem nz_mul {a b : Int} (ha : a ≠ 0) (hb : b ≠ 0) : a * b ≠ 0 := Int.mul_ne_zero ha hb
theorem fofq {w : World} {vn vd : Value} {N D : Int} {k : Nat} (hn : Zi w vn N k) (hd : Zi w vd D k) (hk : k ≤ 68719476736) (hD : D ≠ 0) {a : Rat} (ea : a = Rat.divInt N D) :
    Calls Try.prog 9 #[vn, vd] w (GivesF w a k) := by
  rw [ea]
  exact fof_z hn hd hk hD
theorem like8q {w : World} {B0 B1 B2 B3 : Nat} {a0 a1 a2 a3 b0 b1 b2 b3 : Value} {p q : Rat} {k l : Nat} (han : Zm B0 w (.agg #[a0, a1]) p.num k) (had : Zm B1 w (.agg #[a2, a3]) (p.den : Int) k) (hbn : Zm B2 w (.agg #[b0, b1]) q.num l) (hbd : Zm B3 w (.agg #[b2, b3]) (q.den : Int) l) (h : p = q) :
    Calls Try.prog 21 #[.agg #[a0, a1, a2, a3], .agg #[b0, b1, b2, b3]] w fun e w' => e = .returned (.bool true) ∧ Below w.heap.size w w' :=
  like8 han.zc had.zc hbn.zc hbd.zc (by rw [h]) (by rw [h])
end Go.Proofs.Ytaoammmnpfbdfaa

/- Rec8 -/
namespace Go.Proofs.Ytaoammmnpfbdfaa
open Go.RowKit
set_option linter.unusedVariables false

theorem sq_le {n K : Int} (hK : 0 ≤ K) (h : n * n < (K + 1) * (K + 1)) : (n.natAbs : Int) ≤ K := by
  refine Int.not_lt.1 fun hlt => ?_
  have h1 : (K + 1) * (K + 1) ≤ (n.natAbs : Int) * (n.natAbs : Int) := Int.mul_le_mul (by omega) (by omega) (by omega) (by omega)
  have h2 : (n.natAbs : Int) * (n.natAbs : Int) = n * n := by
    rw [← Int.natAbs_mul_self' n]
  omega
/-- What Recover ends with, at a fraction whose residue it is asked for. -/
theorem rec_end {O R K before rest tb t s : Int} {q : Rat} (hb : Bd O K) (he : Eu O R K before rest tb t s) (hr : rest ≤ K) (hn : 2 * (q.num * q.num) < O) (hd : 2 * ((q.den : Int) * (q.den : Int)) < O) (hg : (Int.gcd (q.den : Int) O : Int) = 1) (hres : O ∣ q.num - R * (q.den : Int)) :
    t ≠ 0 ∧ ¬ 0 < cmpI (t.natAbs : Int) (K.natAbs : Int) ∧ (Int.gcd t O : Int) = 1 ∧ q = Rat.divInt rest t := by
  have k0 := hb.k0
  have hi := hb.hi
  have d0 : 0 < (q.den : Int) := by have := q.den_pos; omega
  have nK : (q.num.natAbs : Int) ≤ K := sq_le k0 (by omega)
  have dK : (q.den : Int) ≤ K := by
    have := sq_le (n := (q.den : Int)) k0 (by omega)
    omega
  have hc : Int.gcd q.num (q.den : Int) = 1 := by
    have := reduced_gcd q
    omega
  obtain ⟨h1, h2⟩ := he.done k0 hb.lo hr nK d0 dK hc hres
  have t0 : t ≠ 0 := by omega
  refine ⟨t0, ?_, ?_, ?_⟩
  · rcases cmp_cases (t.natAbs : Int) (K.natAbs : Int) with ⟨_, h⟩ | ⟨_, h⟩ | ⟨_, h⟩ <;> omega
  · have e : Int.gcd t O = Int.gcd (q.den : Int) O := by
      unfold Int.gcd
      rw [show t.natAbs = ((q.den : Int)).natAbs by omega]
    rw [e]
    exact hg
  · rw [← Rat.num_divInt_den q]
    exact (Rat.divInt_eq_divInt_iff (den_ne q) t0).2 h2
set_option maxHeartbeats 6400000 in
set_option maxRecDepth 100000 in
theorem frec_z {w : World} {vr vo : Value} {R O : Int} {k : Nat} {q : Rat} (hr : Zi w vr R k) (ho : Zi w vo O k) (h1 : 1 ≤ k) (hk : k ≤ 33554000) (hO : 0 < O) (hn : 2 * (q.num * q.num) < O) (hd : 2 * ((q.den : Int) * (q.den : Int)) < O) (hg : (Int.gcd (q.den : Int) O : Int) = 1) (hres : O ∣ q.num - R * (q.den : Int)) :
    Calls Try.prog 33 #[vr, vo] w (GivesF w q k) := by
  have HO := hid hO
  have HN := hid hn
  have HDn := hid hd
  have HGc := hid hg
  have HRS := hid hres
  have HS : Hid (∀ w' v, Zi w' v O k → Calls Try.prog 19 #[v] w' fun e w'' => e = .returned (.int .i64 1) ∧ Below w'.heap.size w' w'') := fun w' v h' => by
    have p := sign_z h'
    rw [cmpI_gt HO.out] at p
    exact p
  clear hO hn hd hg hres
  have zr0 := hr
  obtain ⟨nr, xr, adr, cr, rfl, -, -, -⟩ := hr
  have zo0 := ho
  obtain ⟨no, xo, ado, co, rfl, -, -, -⟩ := ho
  obtain ⟨W0, hW⟩ : ∃ W0, ((w.alloc (duo (.bool nr) (.slice adr xr.length cr))).alloc (duo (.bool no) (.slice ado xo.length co))).alloc (.cells #[(.bool false), (.slice none 0 0), (.bool false), (.slice none 0 0)] 26) = W0 := ⟨_, rfl⟩
  obtain ⟨b0, sz0⟩ := alloc3 w (duo (.bool nr) (.slice adr xr.length cr)) (duo (.bool no) (.slice ado xo.length co)) (.cells #[(.bool false), (.slice none 0 0), (.bool false), (.slice none 0 0)] 26)
  rw [hW] at b0 sz0
  have Pr : Hid (Duo W0 (w.heap.size) (.bool nr) (.slice adr xr.length cr)) := by unfold Hid; rw [← hW]; exact duo_late (duo_late (duo_at (by simp)) _) _
  have Po : Hid (Duo W0 (w.heap.size + 1) (.bool no) (.slice ado xo.length co)) := by unfold Hid; rw [← hW]; exact duo_late (duo_at (by simp)) _
  have PRF : Hid (Cel W0 (w.heap.size + 1 + 1) 26 [(.bool false), (.slice none 0 0), (.bool false), (.slice none 0 0)]) := by unfold Hid; rw [← hW]; exact cel_at (by simp)
  have Zr := hid (zr0.now b0)
  clear zr0
  have Zo := hid (zo0.now b0)
  clear zo0
  have G := hid b0
  clear b0
  have EW := hid hW
  clear hW
  go_enter Try.func33, Try.ntmps33
  have co0 := Po.out.c0
  have co1 := Po.out.c1
  rw [← EW.out] at co0 co1
  go_wp2_with fail
  rw [EW.out]
  clear EW
  clear co0 co1
  refine (HS.out _ _ Zo.out).mono ?_
  rintro e w1 ⟨rfl, b⟩
  replace Zr := hid (Zr.out.now b)
  replace Zo := hid (Zo.out.now b)
  replace Pr := hid (Pr.out.step b)
  replace Po := hid (Po.out.step b)
  replace PRF := hid (PRF.out.step b)
  replace G := hid (below_step G.out b)
  have lz2 := (show Below _ _ _ from b).size
  clear b 
  have co0 := Po.out.c0
  have co1 := Po.out.c1
  go_wp2_with fail
  clear co0 co1
  refine (bound_z Zo.out hk HO.out).mono ?_
  rintro e w3 ⟨KB, hB, r0, rfl, m0, b⟩
  obtain ⟨nb, xb, adb, qb, rfl, -, -, -, -, -⟩ := id m0
  have HB := hid hB
  clear hB
  replace Zr := hid (Zr.out.now b)
  replace Zo := hid (Zo.out.now b)
  replace Pr := hid (Pr.out.step b)
  replace Po := hid (Po.out.step b)
  replace PRF := hid (PRF.out.step b)
  replace G := hid (below_step G.out b)
  have lz4 := (show Below _ _ _ from b).size
  have Zb := hid m0
  clear b m0
  obtain ⟨V5, hW⟩ : ∃ V5, w3.alloc (duo (.bool nb) (.slice adb xb.length qb)) = V5 := ⟨_, rfl⟩
  obtain ⟨kW, sz5⟩ := alloc1 w3 (duo (.bool nb) (.slice adb xb.length qb))
  rw [hW] at kW sz5
  replace Zr := hid (Zr.out.now kW)
  replace Zo := hid (Zo.out.now kW)
  replace Zb := hid (Zb.out.now kW)
  replace Pr := hid (Pr.out.step kW)
  replace Po := hid (Po.out.step kW)
  replace PRF := hid (PRF.out.step kW)
  replace G := hid (below_step G.out kW)
  have lz6 := (show Below _ _ _ from kW).size
  have PBb : Hid (Duo V5 (w3.heap.size) (.bool nb) (.slice adb xb.length qb)) := by unfold Hid; rw [← hW]; exact duo_at (by simp)
  clear kW
  have cBb0 := PBb.out.c0
  have cBb1 := PBb.out.c1
  have cr0 := Pr.out.c0
  have cr1 := Pr.out.c1
  have co0 := Po.out.c0
  have co1 := Po.out.c1
  rw [← hW] at cBb0 cBb1 cr0 cr1 co0 co1
  have EW := hid hW
  clear hW
  go_wp2_with fail
  rw [EW.out]
  clear EW
  clear cBb0 cBb1 cr0 cr1 co0 co1
  refine (first_z Zb.out.zi Zr.out Zo.out h1 (by omega) HB.out.k0 HB.out.le).mono ?_
  rintro e w7 ⟨zp, zx, zq, zt, zs, r0, r1, hE, hle, rfl, m0, m1, b⟩
  obtain ⟨nx, xx, adx, qx, rfl, -, -, -⟩ := id m0
  obtain ⟨nt, xt, adt, qt, rfl, -, -, -⟩ := id m1
  obtain ⟨e1, e2, e3, e4⟩ := rec_end HB.out hE hle HN.out HDn.out HGc.out HRS.out
  have E1 := hid e1
  have E3 := hid e3
  have E4 := hid e4
  clear hE hle e1 e3 e4
  replace Zr := hid (Zr.out.now b)
  replace Zo := hid (Zo.out.now b)
  replace Zb := hid (Zb.out.now b)
  replace Pr := hid (Pr.out.step b)
  replace Po := hid (Po.out.step b)
  replace PRF := hid (PRF.out.step b)
  replace PBb := hid (PBb.out.step b)
  replace G := hid (below_step G.out b)
  have lz8 := (show Below _ _ _ from b).size
  have Zx := hid m0
  have Zt := hid m1
  clear b m0 m1
  obtain ⟨V9, hW⟩ : ∃ V9, (w7.alloc (duo (.bool nx) (.slice adx xx.length qx))).alloc (duo (.bool nt) (.slice adt xt.length qt)) = V9 := ⟨_, rfl⟩
  obtain ⟨kW, sz9⟩ := alloc2 w7 (duo (.bool nx) (.slice adx xx.length qx)) (duo (.bool nt) (.slice adt xt.length qt))
  rw [hW] at kW sz9
  replace Zr := hid (Zr.out.now kW)
  replace Zo := hid (Zo.out.now kW)
  replace Zb := hid (Zb.out.now kW)
  replace Zx := hid (Zx.out.now kW)
  replace Zt := hid (Zt.out.now kW)
  replace Pr := hid (Pr.out.step kW)
  replace Po := hid (Po.out.step kW)
  replace PRF := hid (PRF.out.step kW)
  replace PBb := hid (PBb.out.step kW)
  replace G := hid (below_step G.out kW)
  have lz10 := (show Below _ _ _ from kW).size
  have PX : Hid (Duo V9 (w7.heap.size) (.bool nx) (.slice adx xx.length qx)) := by unfold Hid; rw [← hW]; exact duo_late (duo_at (by simp)) _
  have PTt : Hid (Duo V9 (w7.heap.size + 1) (.bool nt) (.slice adt xt.length qt)) := by unfold Hid; rw [← hW]; exact duo_at (by simp)
  clear kW
  have HC : Hid (∀ w' v u, Zi w' v zt k → Zi w' u KB k → _) := fun (w' : World) (v u : Value) (h : Zi w' v zt k) (h' : Zi w' u KB k) => cmpAbs_z h h'
  generalize cmpI (zt.natAbs : Int) (KB.natAbs : Int) = C at *
  have q0 : ((0 : Int) != 0) = false := rfl
  have cTt0 := PTt.out.c0
  have cTt1 := PTt.out.c1
  have cBb0 := PBb.out.c0
  have cBb1 := PBb.out.c1
  rw [← hW] at cTt0 cTt1 cBb0 cBb1
  have EW := hid hW
  clear hW
  go_wp2_with fail
  rw [EW.out]
  clear EW
  clear cTt0 cTt1 cBb0 cBb1
  refine (HC.out _ _ _ Zt.out Zb.out.zi).mono ?_
  rintro e w11 ⟨rfl, b⟩
  replace Zr := hid (Zr.out.now b)
  replace Zo := hid (Zo.out.now b)
  replace Zb := hid (Zb.out.now b)
  replace Zx := hid (Zx.out.now b)
  replace Zt := hid (Zt.out.now b)
  replace Pr := hid (Pr.out.step b)
  replace Po := hid (Po.out.step b)
  replace PRF := hid (PRF.out.step b)
  replace PBb := hid (PBb.out.step b)
  replace PX := hid (PX.out.step b)
  replace PTt := hid (PTt.out.step b)
  replace G := hid (below_step G.out b)
  have lz12 := (show Below _ _ _ from b).size
  clear b 
  have cTt0 := PTt.out.c0
  have cTt1 := PTt.out.c1
  have co0 := Po.out.c0
  have co1 := Po.out.c1
  go_wp2_with fail
  clear cTt0 cTt1 co0 co1
  refine (gcd_z Zt.out Zo.out (by omega)).mono ?_
  rintro e w13 ⟨r0, rfl, m0, b⟩
  obtain ⟨ng, xg, adg, qg, rfl, -, -, -, -, -⟩ := id m0
  replace Zr := hid (Zr.out.now b)
  replace Zo := hid (Zo.out.now b)
  replace Zb := hid (Zb.out.now b)
  replace Zx := hid (Zx.out.now b)
  replace Zt := hid (Zt.out.now b)
  replace Pr := hid (Pr.out.step b)
  replace Po := hid (Po.out.step b)
  replace PRF := hid (PRF.out.step b)
  replace PBb := hid (PBb.out.step b)
  replace PX := hid (PX.out.step b)
  replace PTt := hid (PTt.out.step b)
  replace G := hid (below_step G.out b)
  have lz14 := (show Below _ _ _ from b).size
  have Zg := hid m0
  clear b m0
  go_wp2_with fail
  refine (of_z (n := 1) (by decide) (by decide) _).mono ?_
  rintro e w15 ⟨r0, rfl, m0, b⟩
  obtain ⟨nu, xu, adu, qu, rfl, -, -, -, -, -⟩ := id m0
  replace Zr := hid (Zr.out.now b)
  replace Zo := hid (Zo.out.now b)
  replace Zb := hid (Zb.out.now b)
  replace Zx := hid (Zx.out.now b)
  replace Zt := hid (Zt.out.now b)
  replace Zg := hid (Zg.out.now b)
  replace Pr := hid (Pr.out.step b)
  replace Po := hid (Po.out.step b)
  replace PRF := hid (PRF.out.step b)
  replace PBb := hid (PBb.out.step b)
  replace PX := hid (PX.out.step b)
  replace PTt := hid (PTt.out.step b)
  replace G := hid (below_step G.out b)
  have lz16 := (show Below _ _ _ from b).size
  have Zu := hid m0
  clear b m0
  have HQ : Hid (∀ w' v u, Zi w' v (Int.gcd zt O : Int) k → Zi w' u 1 1 → Calls Try.prog 32 #[v, u] w' fun e w'' => e = .returned (.int .i64 0) ∧ Below w'.heap.size w' w'') := fun w' v u h h' => by
    have p := cmp_z h h'
    rw [E3.out, cmpI_self] at p
    exact p
  go_wp2_with fail
  refine (HQ.out _ _ _ Zg.out.zi Zu.out.zi).mono ?_
  rintro e w17 ⟨rfl, b⟩
  replace Zr := hid (Zr.out.now b)
  replace Zo := hid (Zo.out.now b)
  replace Zb := hid (Zb.out.now b)
  replace Zx := hid (Zx.out.now b)
  replace Zt := hid (Zt.out.now b)
  replace Zg := hid (Zg.out.now b)
  replace Zu := hid (Zu.out.now b)
  replace Pr := hid (Pr.out.step b)
  replace Po := hid (Po.out.step b)
  replace PRF := hid (PRF.out.step b)
  replace PBb := hid (PBb.out.step b)
  replace PX := hid (PX.out.step b)
  replace PTt := hid (PTt.out.step b)
  replace G := hid (below_step G.out b)
  have lz18 := (show Below _ _ _ from b).size
  clear b 
  have cX0 := PX.out.c0
  have cX1 := PX.out.c1
  have cTt0 := PTt.out.c0
  have cTt1 := PTt.out.c1
  go_wp2_with fail
  clear cX0 cX1 cTt0 cTt1
  refine (fofq Zx.out Zt.out (by omega) E1.out E4.out).mono ?_
  rintro e w19 ⟨r0, r1, r2, r3, rfl, m0, m1, b⟩
  obtain ⟨nn, xn, adn, qn, rfl, rfl⟩ := m0.zi.comp
  obtain ⟨nd, xd, add, qd, rfl, rfl⟩ := m1.zi.comp
  replace Zr := hid (Zr.out.now b)
  replace Zo := hid (Zo.out.now b)
  replace Zb := hid (Zb.out.now b)
  replace Zx := hid (Zx.out.now b)
  replace Zt := hid (Zt.out.now b)
  replace Zg := hid (Zg.out.now b)
  replace Zu := hid (Zu.out.now b)
  replace Pr := hid (Pr.out.step b)
  replace Po := hid (Po.out.step b)
  replace PRF := hid (PRF.out.step b)
  replace PBb := hid (PBb.out.step b)
  replace PX := hid (PX.out.step b)
  replace PTt := hid (PTt.out.step b)
  replace G := hid (below_step G.out b)
  have lz20 := (show Below _ _ _ from b).size
  have Zn := hid m0
  have Zd := hid m1
  clear b m0 m1
  have cRF0 := (PRF.out.at (i := 0) rfl)
  have cRF1 := (PRF.out.at (i := 1) rfl)
  have cRF2 := (PRF.out.at (i := 2) rfl)
  have cRF3 := (PRF.out.at (i := 3) rfl)
  have fRF0 := PRF.out.fz 0
  have fRF1 := PRF.out.fz 1
  have fRF2 := PRF.out.fz 2
  have fRF3 := PRF.out.fz 3
  go_wp2
  exact bodyPost_ret (fback Try.results33 (PRF.out.put4 _ _ _ _) _ (by rfl) (by rfl)) rfl (gf_end PRF.out Zn.out Zd.out G.out (by omega) (by omega) (by omega))

end Go.Proofs.Ytaoammmnpfbdfaa
