/-
  QExactToLess6: Exact, Wakes3, Rebuilt, RDivMod, R5Div, Less6, joined.
-/
import Derived.Test.YtiedmlfiboalhaaGreatQExact0ToZlaw0
import Derived.Test.YtiedmlfiboalhaaGreatQRWordsToRMul
import Derived.Test.YtiedmlfiboalhaaGreatQR5OnesToRSub
import Derived.Test.YtiedmlfiboalhaaGreatQROrderToRDigits
import Derived.Test.YtiedmlfiboalhaaGreatQRDivide
import Derived.Test.YtiedmlfiboalhaaGreatQR5CmpToTrim3
import Derived.Deep.RegionHeld3
import Derived.Test.YtiedmlfiboalhaaGreatQKe12ToZDivs
import Derived.Test.YtiedmlfiboalhaaGreatQLst9ToTail

/- Exact -/
namespace Go.Proofs.YtiedmlfiboalhaaGreat
open Go.RowKit
set_option linter.unusedVariables false

end Go.Proofs.YtiedmlfiboalhaaGreat

/- Wakes3 -/
namespace Go.Proofs.YtiedmlfiboalhaaGreat
open Go.RowKit
set_option linter.unusedVariables false

end Go.Proofs.YtiedmlfiboalhaaGreat

/- Rebuilt -/
namespace Go.Proofs.YtiedmlfiboalhaaGreat
open Go.RowKit
set_option linter.unusedVariables false

end Go.Proofs.YtiedmlfiboalhaaGreat

/- RDivMod -/
namespace Go.Proofs.YtiedmlfiboalhaaGreat
open Go.RowKit
set_option linter.unusedVariables false

theorem rdivide_any {w : World} {v u : Value} {D E : List Int} (h : Sl w.heap.size w v D) (h' : Sl w.heap.size w u E) (hD : HCanon D) (hE : HCanon E) (hn : E ≠ []) (hlen : D.length ≤ 8796093022208) :
    Calls Tryz.prog 94 #[v, u] w (RDivided w D E) := by
  by_cases q : D.length < E.length
  · exact rdivide_short h h' hD hE q
  · exact rdivide_long h h' hD hE hn (by omega) hlen

set_option maxHeartbeats 1600000 in
theorem rdivMod_any {w : World} {v u : Value} {xs ys : List Int} (h : Sl w.heap.size w v xs) (h' : Sl w.heap.size w u ys) (h1 : wid ys ≠ 0) (hxl : xs.length ≤ 1099511627776) (hyl : ys.length ≤ 1099511627776) :
    Calls Tryz.prog 83 #[v, u] w (DivModed w xs ys) := by
  have HX := hid h
  have HH := halves3_any h' (by omega)
  have HYP := hid (wid_pos_val h'.1 (by omega))
  have WX := hid h.1
  clear h h' h1
  go_enter Tryz.func83, Tryz.ntmps83
  go_wp2_with fail
  refine HH.mono ?_
  rintro e w1 ⟨E, vE, rfl, hsE, hcE, hvE, hlE, b1⟩
  have hEn : E ≠ [] := fun e => by
    subst e
    have := HYP.out
    simp [hval] at hvE
    omega
  have HSE := hid hsE
  obtain ⟨_, aE, capE, rfl, _⟩ := hsE
  have hel : E.length ≠ 0 := fun e => hEn (List.eq_nil_of_length_eq_zero e)
  have hz : ((E.length : Int) == 0) = false := by rw [beq_eq_false_iff_ne]; omega
  have B1 := hid b1
  have HX1 := hid (halves3_any (HX.out.now b1) (by omega))
  have HVE := hid hvE
  clear HH b1 HX hvE
  go_wp2_with fail
  refine HX1.out.mono ?_
  rintro e w2 ⟨D, vD, rfl, hsD, hcD, hvD, hlD, b2⟩
  have HDV := hid (rdivide_any hsD (HSE.out.now b2) hcD hcE hEn (by omega))
  have B2 := hid b2
  have HVD := hid hvD
  clear HX1 b2 hvD HSE
  go_wp2_with fail
  refine HDV.out.mono ?_
  rintro e w3 ⟨qs, rs, vq, vr, rfl, hsq, hsr, hcq, hcr, hdv, hlt, hlq, hlr, b3⟩
  have HWQ := hid (words3_any hsq hcq.1 (by omega))
  have HSR := hid hsr
  have B3 := hid b3
  have HDVV : Hid (hval D = hval E * hval qs + hval rs ∧ hval rs < hval E) := ⟨hdv, hlt⟩
  clear HDV b3 hdv hlt hsq hsr
  go_wp2_with fail
  refine HWQ.out.mono ?_
  rintro e w4 ⟨qz, vq4, rfl, hoq, hcq4, hvq4, b4⟩
  have HWR := hid (words3_any (HSR.out.now b4) hcr.1 (by omega))
  have B4 := hid b4
  have HOQ := hid hoq
  clear HWQ hoq b4 HSR
  go_wp2_with fail
  refine HWR.out.mono ?_
  rintro e w5 ⟨rz, vr5, rfl, hor, hcr5, hvr5, b5⟩
  have HOR := hid hor
  have B5 := hid b5
  clear HWR hor b5
  go_wp2
  go_ret3
  have s1 := B1.out.size
  have s2 := B2.out.size
  have s3 := B3.out.size
  have s4 := B4.out.size
  have f1 : val xs = val ys * val qz + val rz := by rw [hvq4, hvr5, ← HVE.out, ← HVD.out]; exact HDVV.out.1
  have f2 : val rz < val ys := by rw [hvr5, ← HVE.out]; exact HDVV.out.2
  have f4 := HYP.out
  have a1 := val_nonneg hcq4.1
  have a2 := val_nonneg hcr5.1
  have f5 : val qz ≤ val xs := by
    have a3 := Int.mul_le_mul_of_nonneg_right (show 1 ≤ val ys by omega) a1
    rw [Int.one_mul] at a3
    omega
  have f5' : val rz ≤ val xs := by
    have a3 := Int.mul_nonneg (show 0 ≤ val ys by omega) a1
    omega
  have f6 := canon_len_le hcq4 (canon_lst WX.out) (by rw [val_lst xs]; exact f5)
  have f7 := canon_len_le hcr5 (canon_lst WX.out) (by rw [val_lst xs]; exact f5')
  rw [length_lst xs] at f6 f7
  have f8 := wid_le xs
  exact ⟨qz, rz, vq4, vr5, rfl, (HOQ.out.lower (by omega)).stay B5.out, HOR.out.lower (by omega), hcq4, hcr5, f1, f2, by omega, by omega, two_of HOQ.out HOR.out (Nat.le_refl _), below_step (below_step (below_step (below_step B1.out B2.out) B3.out) B4.out) B5.out⟩

end Go.Proofs.YtiedmlfiboalhaaGreat

/- R5Div -/
namespace Go.Proofs.YtiedmlfiboalhaaGreat
open Go.RowKit
set_option linter.unusedVariables false

set_option maxHeartbeats 3200000 in
set_option maxRecDepth 100000 in
theorem rtrunc_z {w : World} {va vb : Value} {A B : Int} {ka kb : Nat} (ha : Zi w va A ka) (hb : Zi w vb B kb) (hB : B ≠ 0) (hk : ka ≤ 1099511627776) (hl : kb ≤ 1099511627776) :
    Calls Tryz.prog 67 #[va, vb] w (GivesZ2 0 w (A.tdiv B) (A.tmod B) ka ka) := by
  have za0 := ha
  obtain ⟨na, xa, aa, ca, rfl, sa, ea, la⟩ := ha
  have zb0 := hb
  obtain ⟨nb, xb, ab, cb, rfl, sb, eb, lb⟩ := hb
  obtain ⟨W0, hW0⟩ : ∃ W0, (((w.alloc (duo (.bool na) (.slice aa xa.length ca))).alloc (duo (.bool nb) (.slice ab xb.length cb))).alloc zbox).alloc zbox = W0 := ⟨_, rfl⟩
  obtain ⟨b0, sz0⟩ := alloc4 w (duo (.bool na) (.slice aa xa.length ca)) (duo (.bool nb) (.slice ab xb.length cb)) zbox zbox
  rw [hW0] at b0 sz0
  have pa : Duo W0 (w.heap.size) (.bool na) (.slice aa xa.length ca) := by rw [← hW0]; exact duo_late (duo_late (duo_late (duo_at (by simp)) _) _) _
  have pb : Duo W0 (w.heap.size + 1) (.bool nb) (.slice ab xb.length cb) := by rw [← hW0]; exact duo_late (duo_late (duo_at (by simp)) _) _
  have r0 : Duo W0 (w.heap.size + 1 + 1) (.bool false) (.slice none 0 0) := by rw [← hW0]; exact duo_late (duo_at (by simp)) _
  have r1 : Duo W0 (w.heap.size + 1 + 1 + 1) (.bool false) (.slice none 0 0) := by rw [← hW0]; exact duo_at (by simp)
  have Pa := hid pa
  have ia0 := pa.c0
  have ia1 := pa.c1
  have Za := hid (za0.now b0)
  have Sa := hid (sa.now b0)
  have Pb := hid pb
  have ib0 := pb.c0
  have ib1 := pb.c1
  have Zb := hid (zb0.now b0)
  have Sb := hid (sb.now b0)
  have R0 := hid r0
  have R1 := hid r1
  have EW := hid hW0
  have G := hid b0
  clear b0 hW0 za0 sa pa zb0 sb pb r0 r1
  have HD := hid (rdivMod_any Sa.out Sb.out (fun e => hB ((wid_of_iv Sb.out.1 eb).1 e)) (by omega) (by omega))
  have HV : Hid (∀ qs rs, Canon rs → val xa = val xb * val qs + val rs → val rs < val xb → iv (na != nb) qs = A.tdiv B ∧ iv na rs = A.tmod B) := fun qs rs hr h h1 => by
    rw [← ea, ← eb]
    exact div_iv Sa.out.1 hr.1 h h1
  have q0 : ((0 : Int) != 0) = false := rfl
  clear ea eb hB
  go_enter Tryz.func67, Tryz.ntmps67
  go_wp2_with fail
  rw [EW.out]
  clear ia0 ia1 ib0 ib1
  refine HD.out.mono ?_
  rintro e w1 ⟨qs, rs, q, r, rfl, hoq, hor, hcq, hcr, hv, hlt, hlq, hlr, _, b⟩
  obtain ⟨qa, qc, rfl⟩ := hoq.form
  obtain ⟨ra, rc, rfl⟩ := hor.form
  have MQ := hid hoq.sl
  have MR := hid hor.sl
  have HVV := hid (HV.out qs rs hcr hv hlt)
  have lw := b.size
  replace Pa := hid (Pa.out.step b)
  have ia0 := Pa.out.c0
  have ia1 := Pa.out.c1
  replace Pb := hid (Pb.out.step b)
  have ib0 := Pb.out.c0
  have ib1 := Pb.out.c1
  replace R0 := hid (R0.out.step b)
  replace R1 := hid (R1.out.step b)
  replace G := hid (below_step G.out b)
  have KS : Hid (∀ w', Below w1.heap.size w1 w' → w'.cell? ⟨w.heap.size, 0, none⟩ = some (.bool na) ∧ w'.cell? ⟨w.heap.size + 1, 0, none⟩ = some (.bool nb)) := fun w' h => ⟨(Pa.out.step h).c0, (Pb.out.step h).c0⟩
  have H1 : Hid (∀ w', Below w1.heap.size w1 w' → _) := fun w' h => rmade (n := na != nb) (MQ.out.now h) (by omega)
  rw [HVV.out.1] at H1
  have H2 : Hid (∀ w', Below w1.heap.size w1 w' → _) := fun w' h => rmade (n := na) (MR.out.now h) (by omega)
  rw [HVV.out.2] at H2
  clear hoq hor hv hlt b HD HV ia1 ib1
  go_wp2_with fail
  go_region_held3 (fun w' => w'.cell? ⟨w.heap.size, 0, none⟩ = some (.bool na) ∧ w'.cell? ⟨w.heap.size + 1, 0, none⟩ = some (.bool nb))
    (first
      | ((try dsimp only); refine ⟨?_, ?_⟩ <;> with_reducible (repeat (refine box_ne (by omega) ?_)) <;> with_reducible assumption)
      | (refine KS.out _ ?_; repeat (first | with_reducible exact HP3.out | with_reducible exact HP2.out | with_reducible exact Below.refl _ _ | with_reducible apply Below.drew)))
    (first
      | (have _ := HP2; go_at_call 38; refine (H2.out _ (below_step HP2.out (by repeat (first | exact Below.refl _ _ | apply Below.drew)))).mono ?_; rintro e3 w3 ⟨r3, rfl, m3, b3⟩; have HB3 : Hid (Below w2.heap.size w2 w3) := below_step (w0 := w2) (by repeat (first | exact Below.refl _ _ | apply Below.drew)) b3; have HP3 := hid (below_step HP2.out HB3.out); obtain ⟨c30, c31⟩ := KS.out w3 HP3.out; have Z3 := hid m3; obtain ⟨n3, x3, a3, q3, rfl, -, -, -, -, -⟩ := m3; have RA := hid (R0.out.step HP3.out); have RB := hid (R1.out.step HP3.out); have y0 := RA.out.c0; have y1 := RA.out.c1; have y2 := RB.out.c0; have y3 := RB.out.c1; have f0 := RA.out.fz 0; have f1 := RA.out.fz 1; have f2 := RB.out.fz 0; have f3 := RB.out.fz 1)
      | (go_at_call 38; refine (H1.out _ (by repeat (first | exact Below.refl _ _ | apply Below.drew))).mono ?_; rintro e2 w2 ⟨r2, rfl, m2, b2⟩; have HP2 : Hid (Below w1.heap.size w1 w2) := below_step (w0 := w1) (by repeat (first | exact Below.refl _ _ | apply Below.drew)) b2; obtain ⟨c20, c21⟩ := KS.out w2 HP2.out; have Z2 := hid m2; obtain ⟨n2, x2, a2, q2, rfl, -, -, -, -, -⟩ := m2))
  all_goals go_wp2
  all_goals have le2 := HP2.out.size
  all_goals refine bodyPost_ret (zback2 Tryz.results67 ((RA.out.set _ _).box (by omega) _ _) ((RB.out.box (by omega) _ _).set _ _) _ (by rfl) (by rfl) (by rfl)) rfl ?_
  all_goals exact gz2_end (B := W0.heap.size) (((Z2.out.mono (by first | omega | (simp; omega))).now HB3.out).more (by omega)) ((Z3.out.mono (by first | omega | (simp; omega))).more (by omega)) (below_step G.out HP3.out) (by omega) (by omega) (by omega) (by omega)

end Go.Proofs.YtiedmlfiboalhaaGreat

/- Less6 -/
namespace Go.Proofs.YtiedmlfiboalhaaGreat
open Go.RowKit
set_option linter.unusedVariables false

end Go.Proofs.YtiedmlfiboalhaaGreat
