/-
  R5Add: the reference of layer 5: Add, Sub, MulAdd.
-/
import Derived.Test.YtiedmlfiboalhaaGreatQR5OnesToRSub
namespace Go.Proofs.YtiedmlfiboalhaaGreat
open Go.RowKit
set_option linter.unusedVariables false

set_option maxHeartbeats 3200000 in
set_option maxRecDepth 100000 in
theorem radd_z {w : World} {va vb : Value} {A B : Int} {ka kb : Nat} (ha : Zi w va A ka) (hb : Zi w vb B kb) (hk : ka ≤ 1099511627776) (hl : kb ≤ 1099511627776) :
    Calls Tryz.prog 37 #[va, vb] w (GivesZ w (A + B) (max ka kb + 1)) := by
  have za0 := ha
  obtain ⟨na, xa, aa, ca, rfl, sa, ea, la⟩ := ha
  have zb0 := hb
  obtain ⟨nb, xb, ab, cb, rfl, sb, eb, lb⟩ := hb
  obtain ⟨W0, hW0⟩ : ∃ W0, ((w.alloc (duo (.bool na) (.slice aa xa.length ca))).alloc (duo (.bool nb) (.slice ab xb.length cb))).alloc zbox = W0 := ⟨_, rfl⟩
  obtain ⟨b0, sz0⟩ := alloc3 w (duo (.bool na) (.slice aa xa.length ca)) (duo (.bool nb) (.slice ab xb.length cb)) zbox
  rw [hW0] at b0 sz0
  have pa : Duo W0 (w.heap.size) (.bool na) (.slice aa xa.length ca) := by rw [← hW0]; exact duo_late (duo_late (duo_at (by simp)) _) _
  have pb : Duo W0 (w.heap.size + 1) (.bool nb) (.slice ab xb.length cb) := by rw [← hW0]; exact duo_late (duo_at (by simp)) _
  have r0 : Duo W0 (w.heap.size + 1 + 1) (.bool false) (.slice none 0 0) := by rw [← hW0]; exact duo_at (by simp)
  have Pa := hid pa
  have ia0 := pa.c0
  have ia1 := pa.c1
  have Za := hid (za0.now b0)
  have Sa := hid (sa.now b0)
  have Pb := hid pb
  have ib0 := pb.c0
  have ib1 := pb.c1
  have Zb := hid (zb0.now b0)
  have Sb := hid (sb.now b0)
  have R0 := hid r0
  have EW := hid hW0
  have G := hid b0
  clear b0 hW0 za0 sa pa zb0 sb pb r0
  have hxa := hid Sa.out.1
  have hxb := hid Sb.out.1
  have va0 := hid (val_nonneg Sa.out.1)
  have vb0 := hid (val_nonneg Sb.out.1)
  by_cases hnm : na = nb
  · have hq : (na == nb) = true := by simp [hnm]
    have HV : Hid (∀ zs, val zs = val xa + val xb → iv na zs = A + B) := fun zs e => by
      rw [← ea, ← eb]; subst hnm; cases na <;> simp [iv, e] <;> omega
    have HLt : Hid (val xa + val xb < pw (max xa.length xb.length + 1)) := by
      have h1 := val_lt_pw hxa.out
      have h2 := val_lt_pw hxb.out
      have h3 := pw_up (show xa.length ≤ max xa.length xb.length by omega)
      have h4 := pw_up (show xb.length ≤ max xa.length xb.length by omega)
      unfold Hid
      rw [pw, show wB = 18446744073709551616 from rfl]
      have := pw_pos (max xa.length xb.length)
      omega
    clear ea eb hnm
    go_enter Tryz.func37, Tryz.ntmps37
    go_wp2_with fail
    rw [EW.out]
    clear ia0 ia1 ib0 ib1
    refine (radd_any Sa.out Sb.out (by omega) (by omega)).mono ?_
    rintro e w1 ⟨zs, r, rfl, ho, hc, hv, b⟩
    obtain ⟨az, cz, rfl⟩ := ho.form
    have hk1 : zs.length ≤ max xa.length xb.length + 1 := canon_len hc (by rw [hv]; exact HLt.out)
    have HM := hid ho.sl
    have lw := b.size
    have EV := hid (HV.out zs hv)
    replace Pa := hid (Pa.out.step b)
    have ia0 := Pa.out.c0
    have ia1 := Pa.out.c1
    replace Pb := hid (Pb.out.step b)
    have ib0 := Pb.out.c0
    have ib1 := Pb.out.c1
    replace R0 := hid (R0.out.step b)
    replace G := hid (below_step G.out b)
    clear b ho hc hv HV HLt
    have HL : Hid (Calls Tryz.prog 38 #[.bool na, .slice az zs.length cz] w1 (GivesZ w1 (A + B) zs.length)) := by
      unfold Hid
      have q := rmade (n := na) HM.out (by omega)
      rw [EV.out] at q
      exact q
    go_wp2_with fail
    clear ia0 ia1 ib0 ib1
    refine (HL.out).mono ?_
    rintro e w2 ⟨r, rfl, m2, b⟩
    obtain ⟨n2, x2, a2, q2, rfl, -, -, -, -, -⟩ := id m2
    replace R0 := hid (R0.out.step b)
    replace G := hid (below_step G.out b)
    have Z2 := hid ((m2.mono (B' := W0.heap.size) lw).more (l := max ka kb + 1) (by omega))
    clear b m2
    have y00 := R0.out.c0
    have y01 := R0.out.c1
    have f00 := R0.out.fz 0
    have f01 := R0.out.fz 1
    go_wp2
    exact bodyPost_ret (zback Tryz.results37 (R0.out.set _ _) _ (by rfl)) rfl (gz_end (B := W0.heap.size) Z2.out G.out (by omega) (by omega))
  · have hq : (na == nb) = false := by simp [hnm]
    have HC : Hid (∀ w', Below W0.heap.size W0 w' → _) := fun w' h => rcmp_any (Sa.out.now h) (Sb.out.now h) (by omega) (by omega)
    by_cases hge : val xb ≤ val xa
    · have hcmp : 0 ≤ cmpI (val xa) (val xb) := by have := cmpI_nonneg hge; omega
      have HV : Hid (∀ zs, val zs = val xa - val xb → iv na zs = A + B) := fun zs e => by
        rw [← ea, ← eb]; cases na <;> cases nb <;> simp [iv, e] at hnm ⊢ <;> omega
      have HS : Hid (∀ w', Below W0.heap.size W0 w' → _) := fun w' h => rsub_yes (Sa.out.now h) (Sb.out.now h) (by omega) (by omega) hge
      have HLt := hid (val_lt_pw hxa.out)
      generalize cmpI (val xa) (val xb) = C at *
      clear ea eb hnm hge
      go_enter Tryz.func37, Tryz.ntmps37
      go_wp2_with fail
      rw [EW.out]
      clear ia0 ia1 ib0 ib1
      refine (HC.out W0 (Below.refl _ _)).mono ?_
      rintro e w1 ⟨rfl, b⟩
      have B1 := hid b
      replace Pa := hid (Pa.out.step b)
      have ia0 := Pa.out.c0
      have ia1 := Pa.out.c1
      replace Pb := hid (Pb.out.step b)
      have ib0 := Pb.out.c0
      have ib1 := Pb.out.c1
      replace R0 := hid (R0.out.step b)
      replace G := hid (below_step G.out b)
      clear b
      go_wp2_with fail
      refine (HS.out w1 B1.out).mono ?_
      rintro e w2 ⟨zs, r, rfl, ho, hc, hv, b⟩
      obtain ⟨az, cz, rfl⟩ := ho.form
      have hk1 : zs.length ≤ xa.length := canon_len hc (by rw [hv]; have h1 := va0.out; have h2 := vb0.out; have h3 := HLt.out; omega)
      have HM := hid ho.sl
      have lw := Nat.le_trans B1.out.size b.size
      have EV := hid (HV.out zs hv)
      clear ia0 ia1 ib0 ib1
      replace Pa := hid (Pa.out.step b)
      have ia0 := Pa.out.c0
      have ia1 := Pa.out.c1
      replace Pb := hid (Pb.out.step b)
      have ib0 := Pb.out.c0
      have ib1 := Pb.out.c1
      replace R0 := hid (R0.out.step b)
      replace G := hid (below_step G.out b)
      clear b ho hc hv HV HLt
      have HL : Hid (Calls Tryz.prog 38 #[.bool na, .slice az zs.length cz] w2 (GivesZ w2 (A + B) zs.length)) := by
        unfold Hid
        have q := rmade (n := na) HM.out (by omega)
        rw [EV.out] at q
        exact q
      go_wp2_with fail
      clear ia0 ia1 ib0 ib1
      refine (HL.out).mono ?_
      rintro e w3 ⟨r, rfl, m3, b⟩
      obtain ⟨n3, x3, a3, q3, rfl, -, -, -, -, -⟩ := id m3
      replace R0 := hid (R0.out.step b)
      replace G := hid (below_step G.out b)
      have Z3 := hid ((m3.mono (B' := W0.heap.size) lw).more (l := max ka kb + 1) (by omega))
      clear b m3
      have y00 := R0.out.c0
      have y01 := R0.out.c1
      have f00 := R0.out.fz 0
      have f01 := R0.out.fz 1
      go_wp2
      exact bodyPost_ret (zback Tryz.results37 (R0.out.set _ _) _ (by rfl)) rfl (gz_end (B := W0.heap.size) Z3.out G.out (by omega) (by omega))
    · have hcmp : ¬ 0 ≤ cmpI (val xa) (val xb) := by have := cmpI_neg (Int.lt_of_not_ge hge); omega
      have HV : Hid (∀ zs, val zs = val xb - val xa → iv nb zs = A + B) := fun zs e => by
        rw [← ea, ← eb]; cases na <;> cases nb <;> simp [iv, e] at hnm ⊢ <;> omega
      have HS : Hid (∀ w', Below W0.heap.size W0 w' → _) := fun w' h => rsub_yes (Sb.out.now h) (Sa.out.now h) (by omega) (by omega) (by omega)
      have HLt := hid (val_lt_pw hxb.out)
      generalize cmpI (val xa) (val xb) = C at *
      clear ea eb hnm hge
      go_enter Tryz.func37, Tryz.ntmps37
      go_wp2_with fail
      rw [EW.out]
      clear ia0 ia1 ib0 ib1
      refine (HC.out W0 (Below.refl _ _)).mono ?_
      rintro e w1 ⟨rfl, b⟩
      have B1 := hid b
      replace Pa := hid (Pa.out.step b)
      have ia0 := Pa.out.c0
      have ia1 := Pa.out.c1
      replace Pb := hid (Pb.out.step b)
      have ib0 := Pb.out.c0
      have ib1 := Pb.out.c1
      replace R0 := hid (R0.out.step b)
      replace G := hid (below_step G.out b)
      clear b
      go_wp2_with fail
      refine (HS.out w1 B1.out).mono ?_
      rintro e w2 ⟨zs, r, rfl, ho, hc, hv, b⟩
      obtain ⟨az, cz, rfl⟩ := ho.form
      have hk1 : zs.length ≤ xb.length := canon_len hc (by rw [hv]; have h1 := va0.out; have h2 := vb0.out; have h3 := HLt.out; omega)
      have HM := hid ho.sl
      have lw := Nat.le_trans B1.out.size b.size
      have EV := hid (HV.out zs hv)
      clear ia0 ia1 ib0 ib1
      replace Pa := hid (Pa.out.step b)
      have ia0 := Pa.out.c0
      have ia1 := Pa.out.c1
      replace Pb := hid (Pb.out.step b)
      have ib0 := Pb.out.c0
      have ib1 := Pb.out.c1
      replace R0 := hid (R0.out.step b)
      replace G := hid (below_step G.out b)
      clear b ho hc hv HV HLt
      have HL : Hid (Calls Tryz.prog 38 #[.bool nb, .slice az zs.length cz] w2 (GivesZ w2 (A + B) zs.length)) := by
        unfold Hid
        have q := rmade (n := nb) HM.out (by omega)
        rw [EV.out] at q
        exact q
      go_wp2_with fail
      clear ia0 ia1 ib0 ib1
      refine (HL.out).mono ?_
      rintro e w3 ⟨r, rfl, m3, b⟩
      obtain ⟨n3, x3, a3, q3, rfl, -, -, -, -, -⟩ := id m3
      replace R0 := hid (R0.out.step b)
      replace G := hid (below_step G.out b)
      have Z3 := hid ((m3.mono (B' := W0.heap.size) lw).more (l := max ka kb + 1) (by omega))
      clear b m3
      have y00 := R0.out.c0
      have y01 := R0.out.c1
      have f00 := R0.out.fz 0
      have f01 := R0.out.fz 1
      go_wp2
      exact bodyPost_ret (zback Tryz.results37 (R0.out.set _ _) _ (by rfl)) rfl (gz_end (B := W0.heap.size) Z3.out G.out (by omega) (by omega))

set_option maxHeartbeats 3200000 in
set_option maxRecDepth 100000 in
theorem rsub_z {w : World} {va vb : Value} {A B : Int} {ka kb : Nat} (ha : Zi w va A ka) (hb : Zi w vb B kb) (hk : ka ≤ 1099511627776) (hl : kb ≤ 1099511627776) :
    Calls Tryz.prog 69 #[va, vb] w (GivesZ w (A - B) (max ka kb + 1)) := by
  have za0 := ha
  obtain ⟨na, xa, aa, ca, rfl, sa, ea, la⟩ := ha
  have zb0 := hb
  obtain ⟨nb, xb, ab, cb, rfl, sb, eb, lb⟩ := hb
  obtain ⟨W0, hW0⟩ : ∃ W0, ((w.alloc (duo (.bool na) (.slice aa xa.length ca))).alloc (duo (.bool nb) (.slice ab xb.length cb))).alloc zbox = W0 := ⟨_, rfl⟩
  obtain ⟨b0, sz0⟩ := alloc3 w (duo (.bool na) (.slice aa xa.length ca)) (duo (.bool nb) (.slice ab xb.length cb)) zbox
  rw [hW0] at b0 sz0
  have pa : Duo W0 (w.heap.size) (.bool na) (.slice aa xa.length ca) := by rw [← hW0]; exact duo_late (duo_late (duo_at (by simp)) _) _
  have pb : Duo W0 (w.heap.size + 1) (.bool nb) (.slice ab xb.length cb) := by rw [← hW0]; exact duo_late (duo_at (by simp)) _
  have r0 : Duo W0 (w.heap.size + 1 + 1) (.bool false) (.slice none 0 0) := by rw [← hW0]; exact duo_at (by simp)
  have Pa := hid pa
  have ia0 := pa.c0
  have ia1 := pa.c1
  have Za := hid (za0.now b0)
  have Sa := hid (sa.now b0)
  have Pb := hid pb
  have ib0 := pb.c0
  have ib1 := pb.c1
  have Zb := hid (zb0.now b0)
  have Sb := hid (sb.now b0)
  have R0 := hid r0
  have EW := hid hW0
  have G := hid b0
  clear b0 hW0 za0 sa pa zb0 sb pb r0
  have ZN : Hid (Zi W0 (.agg #[.bool (!nb), .slice ab xb.length cb]) (-B) kb) := ⟨!nb, xb, ab, cb, rfl, Sb.out, by rw [iv_not, eb], lb⟩
  clear ea eb
  have EA : Hid (A + -B = A - B) := by unfold Hid; omega
  go_enter Tryz.func69, Tryz.ntmps69
  go_wp2_with fail
  rw [EW.out]
  clear ia0 ia1 ib0 ib1
  have HL := hid (radd_z Za.out ZN.out hk hl)
  rw [EA.out] at HL
  refine (HL.out).mono ?_
  rintro e w1 ⟨r, rfl, m1, b⟩
  obtain ⟨n1, x1, a1, q1, rfl, -, -, -, -, -⟩ := id m1
  replace R0 := hid (R0.out.step b)
  replace G := hid (below_step G.out b)
  have Z1 := hid (m1)
  clear b m1
  have y00 := R0.out.c0
  have y01 := R0.out.c1
  have f00 := R0.out.fz 0
  have f01 := R0.out.fz 1
  go_wp2
  exact bodyPost_ret (zback Tryz.results69 (R0.out.set _ _) _ (by rfl)) rfl (gz_end (B := W0.heap.size) Z1.out G.out (by omega) (by omega))

set_option maxHeartbeats 3200000 in
set_option maxRecDepth 100000 in
theorem rmulAdd_z {w : World} {va vb vc : Value} {A B C : Int} {ka kb kc : Nat} (ha : Zi w va A ka) (hb : Zi w vb B kb) (hc : Zi w vc C kc) (hk : ka + kb ≤ 1099511627776) (hl : kc ≤ 1099511627776) :
    Calls Tryz.prog 20 #[va, vb, vc] w (GivesZ w (A * B + C) (max (ka + kb) kc + 1)) := by
  have za0 := ha
  obtain ⟨na, xa, aa, ca, rfl, sa, ea, la⟩ := ha
  have zb0 := hb
  obtain ⟨nb, xb, ab, cb, rfl, sb, eb, lb⟩ := hb
  have zc0 := hc
  obtain ⟨nc, xc, ac, cc, rfl, sc, ec, lc⟩ := hc
  obtain ⟨W0, hW0⟩ : ∃ W0, (((w.alloc (duo (.bool na) (.slice aa xa.length ca))).alloc (duo (.bool nb) (.slice ab xb.length cb))).alloc (duo (.bool nc) (.slice ac xc.length cc))).alloc zbox = W0 := ⟨_, rfl⟩
  obtain ⟨b0, sz0⟩ := alloc4 w (duo (.bool na) (.slice aa xa.length ca)) (duo (.bool nb) (.slice ab xb.length cb)) (duo (.bool nc) (.slice ac xc.length cc)) zbox
  rw [hW0] at b0 sz0
  have pa : Duo W0 (w.heap.size) (.bool na) (.slice aa xa.length ca) := by rw [← hW0]; exact duo_late (duo_late (duo_late (duo_at (by simp)) _) _) _
  have pb : Duo W0 (w.heap.size + 1) (.bool nb) (.slice ab xb.length cb) := by rw [← hW0]; exact duo_late (duo_late (duo_at (by simp)) _) _
  have pc : Duo W0 (w.heap.size + 1 + 1) (.bool nc) (.slice ac xc.length cc) := by rw [← hW0]; exact duo_late (duo_at (by simp)) _
  have r0 : Duo W0 (w.heap.size + 1 + 1 + 1) (.bool false) (.slice none 0 0) := by rw [← hW0]; exact duo_at (by simp)
  have Pa := hid pa
  have ia0 := pa.c0
  have ia1 := pa.c1
  have Za := hid (za0.now b0)
  have Sa := hid (sa.now b0)
  have Pb := hid pb
  have ib0 := pb.c0
  have ib1 := pb.c1
  have Zb := hid (zb0.now b0)
  have Sb := hid (sb.now b0)
  have Pc := hid pc
  have ic0 := pc.c0
  have ic1 := pc.c1
  have Zc := hid (zc0.now b0)
  have Sc := hid (sc.now b0)
  have R0 := hid r0
  have EW := hid hW0
  have G := hid b0
  clear b0 hW0 za0 sa pa zb0 sb pb zc0 sc pc r0
  clear ea eb ec
  go_enter Tryz.func20, Tryz.ntmps20
  go_wp2_with fail
  rw [EW.out]
  clear ia0 ia1 ib0 ib1 ic0 ic1
  refine (rmul_z Za.out Zb.out (by omega) (by omega)).mono ?_
  rintro e w1 ⟨r, rfl, m1, b⟩
  obtain ⟨n1, x1, a1, q1, rfl, -, -, -, -, -⟩ := id m1
  obtain ⟨W1, hW1⟩ : ∃ W1, w1.alloc (duo (.bool n1) (.slice a1 x1.length q1)) = W1 := ⟨_, rfl⟩
  obtain ⟨kW, sz1⟩ := alloc1 w1 (duo (.bool n1) (.slice a1 x1.length q1))
  rw [hW1] at kW sz1
  have lw := b.size
  have j0 : Duo W1 w1.heap.size (.bool n1) (.slice a1 x1.length q1) := by rw [← hW1]; exact duo_at rfl
  replace b := below_step b kW
  replace Zc := hid (Zc.out.now b)
  replace Pc := hid (Pc.out.step b)
  have ic0 := Pc.out.c0
  have ic1 := Pc.out.c1
  replace R0 := hid (R0.out.step b)
  replace G := hid (below_step G.out b)
  have Z1 := hid (m1.now kW)
  have j1 := j0.c0
  have j2 := j0.c1
  rw [← hW1] at j1 j2 ic0 ic1
  have EW1 := hid hW1
  clear b m1 kW hW1 j0
  go_wp2_with fail
  rw [EW1.out]
  clear j1 j2 ic0 ic1
  refine (radd_z Z1.out.zi Zc.out hk hl).mono ?_
  rintro e w2 ⟨r, rfl, m2, b⟩
  obtain ⟨n2, x2, a2, q2, rfl, -, -, -, -, -⟩ := id m2
  replace R0 := hid (R0.out.step b)
  replace G := hid (below_step G.out b)
  have Z2 := hid (m2.mono (B' := W0.heap.size) (by omega))
  clear b m2
  have y00 := R0.out.c0
  have y01 := R0.out.c1
  have f00 := R0.out.fz 0
  have f01 := R0.out.fz 1
  go_wp2
  exact bodyPost_ret (zback Tryz.results20 (R0.out.set _ _) _ (by rfl)) rfl (gz_end (B := W0.heap.size) Z2.out G.out (by omega) (by omega))

end Go.Proofs.YtiedmlfiboalhaaGreat
