/-
  R5Div: the reference of layer 5: Trunc, Exact.
-/
import Derived.Test.YtkikiddoiigbjaaQRMulToR5Cmp
import Derived.Test.YtkikiddoiigbjaaQExactToRDivMod
import Derived.Deep.RegionHeld3
namespace Go.Proofs.Ytkikiddoiigbjaa
open Go.RowKit
set_option linter.unusedVariables false

set_option maxHeartbeats 3200000 in
set_option maxRecDepth 100000 in
theorem rtrunc_none {w : World} {va vb : Value} {A B : Int} {ka kb : Nat} (ha : Zi w va A ka) (hb : Zi w vb B kb) (hB : B = 0) (hl : kb ≤ 1099511627776) :
    Calls Try.prog 43 #[va, vb] w (GivesZ2 4 w 0 0 ka ka) := by
  have za0 := ha
  obtain ⟨na, xa, aa, ca, rfl, sa, ea, la⟩ := ha
  have zb0 := hb
  obtain ⟨nb, xb, ab, cb, rfl, sb, eb, lb⟩ := hb
  obtain ⟨W0, hW0⟩ : ∃ W0, (((w.alloc (duo (.bool na) (.slice aa xa.length ca))).alloc (duo (.bool nb) (.slice ab xb.length cb))).alloc zbox).alloc zbox = W0 := ⟨_, rfl⟩
  obtain ⟨b0, sz0⟩ := alloc4 w (duo (.bool na) (.slice aa xa.length ca)) (duo (.bool nb) (.slice ab xb.length cb)) zbox zbox
  rw [hW0] at b0 sz0
  have pa : Duo W0 (w.heap.size) (.bool na) (.slice aa xa.length ca) := by rw [← hW0]; exact duo_late (duo_late (duo_late (duo_at (by simp)) _) _) _
  have pb : Duo W0 (w.heap.size + 1) (.bool nb) (.slice ab xb.length cb) := by rw [← hW0]; exact duo_late (duo_late (duo_at (by simp)) _) _
  have r0 : Duo W0 (w.heap.size + 1 + 1) (.bool false) (.slice none 0 0) := by rw [← hW0]; exact duo_late (duo_at (by simp)) _
  have r1 : Duo W0 (w.heap.size + 1 + 1 + 1) (.bool false) (.slice none 0 0) := by rw [← hW0]; exact duo_at (by simp)
  have Pa := hid pa
  have ia0 := pa.c0
  have ia1 := pa.c1
  have Za := hid (za0.now b0)
  have Sa := hid (sa.now b0)
  have Pb := hid pb
  have ib0 := pb.c0
  have ib1 := pb.c1
  have Zb := hid (zb0.now b0)
  have Sb := hid (sb.now b0)
  have R0 := hid r0
  have R1 := hid r1
  have EW := hid hW0
  have G := hid b0
  clear b0 hW0 za0 sa pa zb0 sb pb r0 r1
  have HD := hid (rdivMod_zero (v := .slice aa xa.length ca) Sb.out ((wid_of_iv Sb.out.1 eb).2 hB) (by omega))
  have q4 : ((4 : Int) != 0) = true := rfl
  clear ea eb hB
  go_enter Try.func43, Try.ntmps43
  go_wp2_with fail
  rw [EW.out]
  clear ia0 ia1 ib0 ib1
  refine HD.out.mono ?_
  rintro e w1 ⟨rfl, b⟩
  replace R0 := hid (R0.out.step b)
  replace R1 := hid (R1.out.step b)
  replace G := hid (below_step G.out b)
  clear b HD
  have y00 := R0.out.c0
  have y01 := R0.out.c1
  have f00 := R0.out.fz 0
  have f01 := R0.out.fz 1
  have y10 := R1.out.c0
  have y11 := R1.out.c1
  have f10 := R1.out.fz 0
  have f11 := R1.out.fz 1
  go_wp2
  refine bodyPost_ret (zback2 Try.results43 ((R0.out.set _ _).box (by omega) _ _) ((R1.out.box (by omega) _ _).set _ _) _ (by rfl) (by rfl) (by rfl)) rfl ?_
  exact ⟨_, _, rfl, zm_nil _ _ _, zm_nil _ _ _, bset (bset (bset (bset G.out (by omega)) (by omega)) (by omega)) (by omega)⟩

set_option maxHeartbeats 3200000 in
set_option maxRecDepth 100000 in
theorem rtrunc_z {w : World} {va vb : Value} {A B : Int} {ka kb : Nat} (ha : Zi w va A ka) (hb : Zi w vb B kb) (hB : B ≠ 0) (hk : ka ≤ 1099511627776) (hl : kb ≤ 1099511627776) :
    Calls Try.prog 43 #[va, vb] w (GivesZ2 0 w (A.tdiv B) (A.tmod B) ka ka) := by
  have za0 := ha
  obtain ⟨na, xa, aa, ca, rfl, sa, ea, la⟩ := ha
  have zb0 := hb
  obtain ⟨nb, xb, ab, cb, rfl, sb, eb, lb⟩ := hb
  obtain ⟨W0, hW0⟩ : ∃ W0, (((w.alloc (duo (.bool na) (.slice aa xa.length ca))).alloc (duo (.bool nb) (.slice ab xb.length cb))).alloc zbox).alloc zbox = W0 := ⟨_, rfl⟩
  obtain ⟨b0, sz0⟩ := alloc4 w (duo (.bool na) (.slice aa xa.length ca)) (duo (.bool nb) (.slice ab xb.length cb)) zbox zbox
  rw [hW0] at b0 sz0
  have pa : Duo W0 (w.heap.size) (.bool na) (.slice aa xa.length ca) := by rw [← hW0]; exact duo_late (duo_late (duo_late (duo_at (by simp)) _) _) _
  have pb : Duo W0 (w.heap.size + 1) (.bool nb) (.slice ab xb.length cb) := by rw [← hW0]; exact duo_late (duo_late (duo_at (by simp)) _) _
  have r0 : Duo W0 (w.heap.size + 1 + 1) (.bool false) (.slice none 0 0) := by rw [← hW0]; exact duo_late (duo_at (by simp)) _
  have r1 : Duo W0 (w.heap.size + 1 + 1 + 1) (.bool false) (.slice none 0 0) := by rw [← hW0]; exact duo_at (by simp)
  have Pa := hid pa
  have ia0 := pa.c0
  have ia1 := pa.c1
  have Za := hid (za0.now b0)
  have Sa := hid (sa.now b0)
  have Pb := hid pb
  have ib0 := pb.c0
  have ib1 := pb.c1
  have Zb := hid (zb0.now b0)
  have Sb := hid (sb.now b0)
  have R0 := hid r0
  have R1 := hid r1
  have EW := hid hW0
  have G := hid b0
  clear b0 hW0 za0 sa pa zb0 sb pb r0 r1
  have HD := hid (rdivMod_any Sa.out Sb.out (fun e => hB ((wid_of_iv Sb.out.1 eb).1 e)) (by omega) (by omega))
  have HV : Hid (∀ qs rs, Canon rs → val xa = val xb * val qs + val rs → val rs < val xb → iv (na != nb) qs = A.tdiv B ∧ iv na rs = A.tmod B) := fun qs rs hr h h1 => by
    rw [← ea, ← eb]
    exact div_iv Sa.out.1 hr.1 h h1
  have q0 : ((0 : Int) != 0) = false := rfl
  clear ea eb hB
  go_enter Try.func43, Try.ntmps43
  go_wp2_with fail
  rw [EW.out]
  clear ia0 ia1 ib0 ib1
  refine HD.out.mono ?_
  rintro e w1 ⟨qs, rs, q, r, rfl, hoq, hor, hcq, hcr, hv, hlt, hlq, hlr, _, b⟩
  obtain ⟨qa, qc, rfl⟩ := hoq.form
  obtain ⟨ra, rc, rfl⟩ := hor.form
  have MQ := hid hoq.sl
  have MR := hid hor.sl
  have HVV := hid (HV.out qs rs hcr hv hlt)
  have lw := b.size
  replace Pa := hid (Pa.out.step b)
  have ia0 := Pa.out.c0
  have ia1 := Pa.out.c1
  replace Pb := hid (Pb.out.step b)
  have ib0 := Pb.out.c0
  have ib1 := Pb.out.c1
  replace R0 := hid (R0.out.step b)
  replace R1 := hid (R1.out.step b)
  replace G := hid (below_step G.out b)
  have KS : Hid (∀ w', Below w1.heap.size w1 w' → w'.cell? ⟨w.heap.size, 0, none⟩ = some (.bool na) ∧ w'.cell? ⟨w.heap.size + 1, 0, none⟩ = some (.bool nb)) := fun w' h => ⟨(Pa.out.step h).c0, (Pb.out.step h).c0⟩
  have H1 : Hid (∀ w', Below w1.heap.size w1 w' → _) := fun w' h => rmade (n := na != nb) (MQ.out.now h) (by omega)
  rw [HVV.out.1] at H1
  have H2 : Hid (∀ w', Below w1.heap.size w1 w' → _) := fun w' h => rmade (n := na) (MR.out.now h) (by omega)
  rw [HVV.out.2] at H2
  clear hoq hor hv hlt b HD HV ia1 ib1
  go_wp2_with fail
  go_region_held3 (fun w' => w'.cell? ⟨w.heap.size, 0, none⟩ = some (.bool na) ∧ w'.cell? ⟨w.heap.size + 1, 0, none⟩ = some (.bool nb))
    (first
      | ((try dsimp only); refine ⟨?_, ?_⟩ <;> with_reducible (repeat (refine box_ne (by omega) ?_)) <;> with_reducible assumption)
      | (refine KS.out _ ?_; repeat (first | with_reducible exact HP3.out | with_reducible exact HP2.out | with_reducible exact Below.refl _ _ | with_reducible apply Below.drew)))
    (first
      | (have _ := HP2; go_at_call 42; refine (H2.out _ (below_step HP2.out (by repeat (first | exact Below.refl _ _ | apply Below.drew)))).mono ?_; rintro e3 w3 ⟨r3, rfl, m3, b3⟩; have HB3 : Hid (Below w2.heap.size w2 w3) := below_step (w0 := w2) (by repeat (first | exact Below.refl _ _ | apply Below.drew)) b3; have HP3 := hid (below_step HP2.out HB3.out); obtain ⟨c30, c31⟩ := KS.out w3 HP3.out; have Z3 := hid m3; obtain ⟨n3, x3, a3, q3, rfl, -, -, -, -, -⟩ := m3; have RA := hid (R0.out.step HP3.out); have RB := hid (R1.out.step HP3.out); have y0 := RA.out.c0; have y1 := RA.out.c1; have y2 := RB.out.c0; have y3 := RB.out.c1; have f0 := RA.out.fz 0; have f1 := RA.out.fz 1; have f2 := RB.out.fz 0; have f3 := RB.out.fz 1)
      | (go_at_call 42; refine (H1.out _ (by repeat (first | exact Below.refl _ _ | apply Below.drew))).mono ?_; rintro e2 w2 ⟨r2, rfl, m2, b2⟩; have HP2 : Hid (Below w1.heap.size w1 w2) := below_step (w0 := w1) (by repeat (first | exact Below.refl _ _ | apply Below.drew)) b2; obtain ⟨c20, c21⟩ := KS.out w2 HP2.out; have Z2 := hid m2; obtain ⟨n2, x2, a2, q2, rfl, -, -, -, -, -⟩ := m2))
  all_goals go_wp2
  all_goals have le2 := HP2.out.size
  all_goals refine bodyPost_ret (zback2 Try.results43 ((RA.out.set _ _).box (by omega) _ _) ((RB.out.box (by omega) _ _).set _ _) _ (by rfl) (by rfl) (by rfl)) rfl ?_
  all_goals exact gz2_end (B := W0.heap.size) (((Z2.out.mono (by first | omega | (simp; omega))).now HB3.out).more (by omega)) ((Z3.out.mono (by first | omega | (simp; omega))).more (by omega)) (below_step G.out HP3.out) (by omega) (by omega) (by omega) (by omega)

set_option maxHeartbeats 3200000 in
set_option maxRecDepth 100000 in
theorem rexact_none {w : World} {va vb : Value} {A B : Int} {ka kb : Nat} (ha : Zi w va A ka) (hb : Zi w vb B kb) (hB : B = 0) (hl : kb ≤ 1099511627776) :
    Calls Try.prog 25 #[va, vb] w (GivesZ1 4 w 0 ka) := by
  have za0 := ha
  obtain ⟨na, xa, aa, ca, rfl, sa, ea, la⟩ := ha
  have zb0 := hb
  obtain ⟨nb, xb, ab, cb, rfl, sb, eb, lb⟩ := hb
  obtain ⟨W0, hW0⟩ : ∃ W0, ((w.alloc (duo (.bool na) (.slice aa xa.length ca))).alloc (duo (.bool nb) (.slice ab xb.length cb))).alloc zbox = W0 := ⟨_, rfl⟩
  obtain ⟨b0, sz0⟩ := alloc3 w (duo (.bool na) (.slice aa xa.length ca)) (duo (.bool nb) (.slice ab xb.length cb)) zbox
  rw [hW0] at b0 sz0
  have pa : Duo W0 (w.heap.size) (.bool na) (.slice aa xa.length ca) := by rw [← hW0]; exact duo_late (duo_late (duo_at (by simp)) _) _
  have pb : Duo W0 (w.heap.size + 1) (.bool nb) (.slice ab xb.length cb) := by rw [← hW0]; exact duo_late (duo_at (by simp)) _
  have r0 : Duo W0 (w.heap.size + 1 + 1) (.bool false) (.slice none 0 0) := by rw [← hW0]; exact duo_at (by simp)
  have Pa := hid pa
  have ia0 := pa.c0
  have ia1 := pa.c1
  have Za := hid (za0.now b0)
  have Sa := hid (sa.now b0)
  have Pb := hid pb
  have ib0 := pb.c0
  have ib1 := pb.c1
  have Zb := hid (zb0.now b0)
  have Sb := hid (sb.now b0)
  have R0 := hid r0
  have EW := hid hW0
  have G := hid b0
  clear b0 hW0 za0 sa pa zb0 sb pb r0
  have q4 : ((4 : Int) != 0) = true := rfl
  clear ea eb
  go_enter Try.func25, Try.ntmps25
  go_wp2_with fail
  rw [EW.out]
  clear ia0 ia1 ib0 ib1
  refine (rtrunc_none Za.out Zb.out hB hl).mono ?_
  rintro e w1 ⟨rq, rr, rfl, m1, m2, b⟩
  obtain ⟨n1, x1, a1, q1, rfl, -, -, -, -, -⟩ := id m1
  obtain ⟨n2, x2, a2, q2, rfl, -, -, -, -, -⟩ := id m2
  obtain ⟨W1, hW1⟩ : ∃ W1, (w1.alloc (duo (.bool n1) (.slice a1 x1.length q1))).alloc (duo (.bool n2) (.slice a2 x2.length q2)) = W1 := ⟨_, rfl⟩
  obtain ⟨kW, sz1⟩ := alloc2 w1 (duo (.bool n1) (.slice a1 x1.length q1)) (duo (.bool n2) (.slice a2 x2.length q2))
  rw [hW1] at kW sz1
  have lw := b.size
  have d1 : Duo W1 w1.heap.size (.bool n1) (.slice a1 x1.length q1) := by rw [← hW1]; exact duo_late (duo_at rfl) _
  have d2 : Duo W1 (w1.heap.size + 1) (.bool n2) (.slice a2 x2.length q2) := by rw [← hW1]; exact duo_at (by simp)
  replace b := below_step b kW
  replace R0 := hid (R0.out.step b)
  replace G := hid (below_step G.out b)
  have Z1 := hid (m1.now kW)
  have Z2 := hid (m2.now kW)
  have P1 := hid d1
  have P2 := hid d2
  have EW1 := hid hW1
  clear b m1 m2 kW
  have y00 := R0.out.c0
  have y01 := R0.out.c1
  have f00 := R0.out.fz 0
  have f01 := R0.out.fz 1
  rw [← hW1] at y00 y01 f00 f01
  clear hW1 d1 d2
  go_wp2_with fail
  rw [EW1.out]
  exact bodyPost_ret (zback1 Try.results25 (R0.out.set _ _) _ (by rfl) (by rfl)) rfl (gz1_end (B := W0.heap.size) (zm_nil _ _ _) G.out (by omega) (by omega))

set_option maxHeartbeats 3200000 in
set_option maxRecDepth 100000 in
theorem rexact_yes {w : World} {va vb : Value} {A B : Int} {ka kb : Nat} (ha : Zi w va A ka) (hb : Zi w vb B kb) (hB : B ≠ 0) (hk : ka ≤ 1099511627776) (hl : kb ≤ 1099511627776) (hr : A.tmod B = 0) :
    Calls Try.prog 25 #[va, vb] w (GivesZ1 0 w (A.tdiv B) ka) := by
  have za0 := ha
  obtain ⟨na, xa, aa, ca, rfl, sa, ea, la⟩ := ha
  have zb0 := hb
  obtain ⟨nb, xb, ab, cb, rfl, sb, eb, lb⟩ := hb
  obtain ⟨W0, hW0⟩ : ∃ W0, ((w.alloc (duo (.bool na) (.slice aa xa.length ca))).alloc (duo (.bool nb) (.slice ab xb.length cb))).alloc zbox = W0 := ⟨_, rfl⟩
  obtain ⟨b0, sz0⟩ := alloc3 w (duo (.bool na) (.slice aa xa.length ca)) (duo (.bool nb) (.slice ab xb.length cb)) zbox
  rw [hW0] at b0 sz0
  have pa : Duo W0 (w.heap.size) (.bool na) (.slice aa xa.length ca) := by rw [← hW0]; exact duo_late (duo_late (duo_at (by simp)) _) _
  have pb : Duo W0 (w.heap.size + 1) (.bool nb) (.slice ab xb.length cb) := by rw [← hW0]; exact duo_late (duo_at (by simp)) _
  have r0 : Duo W0 (w.heap.size + 1 + 1) (.bool false) (.slice none 0 0) := by rw [← hW0]; exact duo_at (by simp)
  have Pa := hid pa
  have ia0 := pa.c0
  have ia1 := pa.c1
  have Za := hid (za0.now b0)
  have Sa := hid (sa.now b0)
  have Pb := hid pb
  have ib0 := pb.c0
  have ib1 := pb.c1
  have Zb := hid (zb0.now b0)
  have Sb := hid (sb.now b0)
  have R0 := hid r0
  have EW := hid hW0
  have G := hid b0
  clear b0 hW0 za0 sa pa zb0 sb pb r0
  have q0 : ((0 : Int) != 0) = false := rfl
  have HS : Hid (∀ (w' : World) (v : Value), Zi w' v (A.tmod B) ka → _) := fun w' v h => rsign_z h hk
  rw [show cmpI (A.tmod B) 0 = 0 by rw [hr]; exact cmpI_self 0] at HS
  clear ea eb hr
  go_enter Try.func25, Try.ntmps25
  go_wp2_with fail
  rw [EW.out]
  clear ia0 ia1 ib0 ib1
  refine (rtrunc_z Za.out Zb.out hB hk hl).mono ?_
  rintro e w1 ⟨rq, rr, rfl, m1, m2, b⟩
  obtain ⟨n1, x1, a1, q1, rfl, -, -, -, -, -⟩ := id m1
  obtain ⟨n2, x2, a2, q2, rfl, -, -, -, -, -⟩ := id m2
  obtain ⟨W1, hW1⟩ : ∃ W1, (w1.alloc (duo (.bool n1) (.slice a1 x1.length q1))).alloc (duo (.bool n2) (.slice a2 x2.length q2)) = W1 := ⟨_, rfl⟩
  obtain ⟨kW, sz1⟩ := alloc2 w1 (duo (.bool n1) (.slice a1 x1.length q1)) (duo (.bool n2) (.slice a2 x2.length q2))
  rw [hW1] at kW sz1
  have lw := b.size
  have d1 : Duo W1 w1.heap.size (.bool n1) (.slice a1 x1.length q1) := by rw [← hW1]; exact duo_late (duo_at rfl) _
  have d2 : Duo W1 (w1.heap.size + 1) (.bool n2) (.slice a2 x2.length q2) := by rw [← hW1]; exact duo_at (by simp)
  replace b := below_step b kW
  replace R0 := hid (R0.out.step b)
  replace G := hid (below_step G.out b)
  have Z1 := hid (m1.now kW)
  have Z2 := hid (m2.now kW)
  have P1 := hid d1
  have P2 := hid d2
  have EW1 := hid hW1
  clear b m1 m2 kW
  have j1 := d2.c0
  have j2 := d2.c1
  rw [← hW1] at j1 j2
  clear hW1 d1 d2
  go_wp2_with fail
  rw [EW1.out]
  clear j1 j2
  refine (HS.out _ _ Z2.out.zi).mono ?_
  rintro e w2 ⟨rfl, b⟩
  replace R0 := hid (R0.out.step b)
  replace G := hid (below_step G.out b)
  replace Z1 := hid (Z1.out.now b)
  replace P1 := hid (P1.out.step b)
  have j1 := P1.out.c0
  have j2 := P1.out.c1
  clear b
  have y00 := R0.out.c0
  have y01 := R0.out.c1
  have f00 := R0.out.fz 0
  have f01 := R0.out.fz 1
  go_wp2
  exact bodyPost_ret (zback1 Try.results25 (R0.out.set _ _) _ (by rfl) (by rfl)) rfl (gz1_end (B := W0.heap.size) Z1.out G.out (by omega) (by omega))

set_option maxHeartbeats 3200000 in
set_option maxRecDepth 100000 in
theorem rexact_no {w : World} {va vb : Value} {A B : Int} {ka kb : Nat} (ha : Zi w va A ka) (hb : Zi w vb B kb) (hB : B ≠ 0) (hk : ka ≤ 1099511627776) (hl : kb ≤ 1099511627776) (hr : A.tmod B ≠ 0) :
    Calls Try.prog 25 #[va, vb] w (GivesZ1 8 w 0 ka) := by
  have za0 := ha
  obtain ⟨na, xa, aa, ca, rfl, sa, ea, la⟩ := ha
  have zb0 := hb
  obtain ⟨nb, xb, ab, cb, rfl, sb, eb, lb⟩ := hb
  obtain ⟨W0, hW0⟩ : ∃ W0, ((w.alloc (duo (.bool na) (.slice aa xa.length ca))).alloc (duo (.bool nb) (.slice ab xb.length cb))).alloc zbox = W0 := ⟨_, rfl⟩
  obtain ⟨b0, sz0⟩ := alloc3 w (duo (.bool na) (.slice aa xa.length ca)) (duo (.bool nb) (.slice ab xb.length cb)) zbox
  rw [hW0] at b0 sz0
  have pa : Duo W0 (w.heap.size) (.bool na) (.slice aa xa.length ca) := by rw [← hW0]; exact duo_late (duo_late (duo_at (by simp)) _) _
  have pb : Duo W0 (w.heap.size + 1) (.bool nb) (.slice ab xb.length cb) := by rw [← hW0]; exact duo_late (duo_at (by simp)) _
  have r0 : Duo W0 (w.heap.size + 1 + 1) (.bool false) (.slice none 0 0) := by rw [← hW0]; exact duo_at (by simp)
  have Pa := hid pa
  have ia0 := pa.c0
  have ia1 := pa.c1
  have Za := hid (za0.now b0)
  have Sa := hid (sa.now b0)
  have Pb := hid pb
  have ib0 := pb.c0
  have ib1 := pb.c1
  have Zb := hid (zb0.now b0)
  have Sb := hid (sb.now b0)
  have R0 := hid r0
  have EW := hid hW0
  have G := hid b0
  clear b0 hW0 za0 sa pa zb0 sb pb r0
  have q0 : ((0 : Int) != 0) = false := rfl
  have HS : Hid (∀ (w' : World) (v : Value), Zi w' v (A.tmod B) ka → _) := fun w' v h => rsign_z h hk
  have hs : cmpI (A.tmod B) 0 ≠ 0 := fun e => hr (cmpI_zero e)
  generalize cmpI (A.tmod B) 0 = C at *
  have q1 : (C != 0) = true := by simp [hs]
  clear ea eb hr
  go_enter Try.func25, Try.ntmps25
  go_wp2_with fail
  rw [EW.out]
  clear ia0 ia1 ib0 ib1
  refine (rtrunc_z Za.out Zb.out hB hk hl).mono ?_
  rintro e w1 ⟨rq, rr, rfl, m1, m2, b⟩
  obtain ⟨n1, x1, a1, q1, rfl, -, -, -, -, -⟩ := id m1
  obtain ⟨n2, x2, a2, q2, rfl, -, -, -, -, -⟩ := id m2
  obtain ⟨W1, hW1⟩ : ∃ W1, (w1.alloc (duo (.bool n1) (.slice a1 x1.length q1))).alloc (duo (.bool n2) (.slice a2 x2.length q2)) = W1 := ⟨_, rfl⟩
  obtain ⟨kW, sz1⟩ := alloc2 w1 (duo (.bool n1) (.slice a1 x1.length q1)) (duo (.bool n2) (.slice a2 x2.length q2))
  rw [hW1] at kW sz1
  have lw := b.size
  have d1 : Duo W1 w1.heap.size (.bool n1) (.slice a1 x1.length q1) := by rw [← hW1]; exact duo_late (duo_at rfl) _
  have d2 : Duo W1 (w1.heap.size + 1) (.bool n2) (.slice a2 x2.length q2) := by rw [← hW1]; exact duo_at (by simp)
  replace b := below_step b kW
  replace R0 := hid (R0.out.step b)
  replace G := hid (below_step G.out b)
  have Z1 := hid (m1.now kW)
  have Z2 := hid (m2.now kW)
  have P1 := hid d1
  have P2 := hid d2
  have EW1 := hid hW1
  clear b m1 m2 kW
  have j1 := d2.c0
  have j2 := d2.c1
  rw [← hW1] at j1 j2
  clear hW1 d1 d2
  go_wp2_with fail
  rw [EW1.out]
  clear j1 j2
  refine (HS.out _ _ Z2.out.zi).mono ?_
  rintro e w2 ⟨rfl, b⟩
  replace R0 := hid (R0.out.step b)
  replace G := hid (below_step G.out b)
  replace Z1 := hid (Z1.out.now b)
  replace P1 := hid (P1.out.step b)
  have j1 := P1.out.c0
  have j2 := P1.out.c1
  clear b
  have y00 := R0.out.c0
  have y01 := R0.out.c1
  have f00 := R0.out.fz 0
  have f01 := R0.out.fz 1
  go_wp2
  exact bodyPost_ret (zback1 Try.results25 (R0.out.set _ _) _ (by rfl) (by rfl)) rfl (gz1_end (B := W0.heap.size) (zm_nil _ _ _) G.out (by omega) (by omega))

end Go.Proofs.Ytkikiddoiigbjaa
