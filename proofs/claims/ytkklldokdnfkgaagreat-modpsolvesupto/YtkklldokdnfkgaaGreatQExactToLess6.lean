/-
 QExactToLess6: Exact, Wakes3, Rebuilt, RDivMod, R5Div, Less6, joined.
-/
import Derived.Test.YtkklldokdnfkgaaGreatQExact0ToZDiv
import Derived.Test.YtkklldokdnfkgaaGreatQRWordsToRMul
import Derived.Test.YtkklldokdnfkgaaGreatQR5OnesToRSub
import Derived.Test.YtkklldokdnfkgaaGreatQROrderToRDigits
import Derived.Test.YtkklldokdnfkgaaGreatQRDivide
import Derived.Test.YtkklldokdnfkgaaGreatQLe12ToTrim3
import Derived.Deep.RegionHeld3
import Derived.Test.YtkklldokdnfkgaaGreatQZStoreToLst9
import Derived.Test.YtkklldokdnfkgaaGreatQKe12ToDWords
import Derived.Test.YtkklldokdnfkgaaGreatQFil9ToCat9

set_option maxRecDepth 100000
set_option maxHeartbeats 6400000
set_option linter.unusedVariables false
set_option linter.unusedSimpArgs false
namespace Go.Proofs.YtkklldokdnfkgaaGreat
open Go.RowKit


theorem rdivide_any {w : World} {v u : Value} {D E : List Int} (h : Sl w.heap.size w v D) (h' : Sl w.heap.size w u E) (hD : zgB D) (hE : zgB E) (hn : E ≠ []) (hlen : D.length ≤ 8796093022208) :
  Calls Tryz.prog 98 #[v,u] w (zlD w D E) := by
 by_cases q : D.length < E.length
 ·exact rdivide_short h h' hD hE q
 ·exact rdivide_long h h' hD hE hn (by omega) hlen
theorem rdivMod_zero {w : World} {v u : Value} {ys : List Int} (h' : Sl w.heap.size w u ys) (h0 : wid ys = 0) (hl : ys.length ≤ 1099511627776) :
  Calls Tryz.prog 91 #[v,u] w fun e w' => e = .returned (.tuple #[.slice none 0 0,.slice none 0 0,.int .i64 4]) ∧ Below w.heap.size w w' := by
 have HH := ziC h' (by omega);have hz : ((0 : Int) == 0) = true := rfl;go_enter Tryz.func91,Tryz.ntmps91;go_wp2_with fail;refine HH.mono ?_;rintro e w1 ⟨D,r,rfl,hs,hc,hv,hl,hb⟩;have : D = [] := hcanon_zero hc (by rw [hv];exact zqA ys h0);subst this;obtain ⟨_,a,cap,rfl,_⟩ := hs;have HB := hid hb;clear HH hb;go_wp2;go_ret3;exact ⟨rfl,HB.out⟩
theorem rdivMod_any {w : World} {v u : Value} {xs ys : List Int} (h : Sl w.heap.size w v xs) (h' : Sl w.heap.size w u ys) (h1 : wid ys ≠ 0) (hxl : xs.length ≤ 1099511627776) (hyl : ys.length ≤ 1099511627776) :
  Calls Tryz.prog 91 #[v,u] w (zLD w xs ys) := by
 have HX := hid h;have HH := ziC h' (by omega);have HYP := hid (zpA h'.1 (by omega));have WX := hid h.1;clear h h' h1;go_enter Tryz.func91,Tryz.ntmps91;go_wp2_with fail;refine HH.mono ?_;rintro e w1 ⟨E,vE,rfl,hsE,hcE,hvE,hlE,b1⟩;have hEn : E ≠ [] := fun e => by
  subst e;have := HYP.out;simp [hval] at hvE;omega
 have HSE := hid hsE;obtain ⟨_,aE,capE,rfl,_⟩ := hsE;have hel : E.length ≠ 0 := fun e => hEn (List.eq_nil_of_length_eq_zero e)
 have hz : ((E.length : Int) == 0) = false := by rw [beq_eq_false_iff_ne];omega
 have B1 := hid b1;have HX1 := hid (ziC (HX.out.now b1) (by omega));have HVE := hid hvE;clear HH b1 HX hvE;go_wp2_with fail;refine HX1.out.mono ?_;rintro e w2 ⟨D,vD,rfl,hsD,hcD,hvD,hlD,b2⟩;have HDV := hid (rdivide_any hsD (HSE.out.now b2) hcD hcE hEn (by omega));have B2 := hid b2;have HVD := hid hvD;clear HX1 b2 hvD HSE;go_wp2_with fail;refine HDV.out.mono ?_;rintro e w3 ⟨qs,rs,vq,vr,rfl,hsq,hsr,hcq,hcr,hdv,hlt,hlq,hlr,b3⟩;have HWQ := hid (zWE hsq hcq.1 (by omega));have HSR := hid hsr;have B3 := hid b3;have HDVV : Hid (hval D = hval E * hval qs + hval rs ∧ hval rs < hval E) := ⟨hdv,hlt⟩
 clear HDV b3 hdv hlt hsq hsr;go_wp2_with fail;refine HWQ.out.mono ?_;rintro e w4 ⟨qz,vq4,rfl,hoq,hcq4,hvq4,b4⟩;have HWR := hid (zWE (HSR.out.now b4) hcr.1 (by omega));have B4 := hid b4;have HOQ := hid hoq;clear HWQ hoq b4 HSR;go_wp2_with fail;refine HWR.out.mono ?_;rintro e w5 ⟨rz,vr5,rfl,hor,hcr5,hvr5,b5⟩;have HOR := hid hor;have B5 := hid b5;clear HWR hor b5;go_wp2;go_ret3;have s1 := B1.out.size;have s2 := B2.out.size;have s3 := B3.out.size;have s4 := B4.out.size;have f1 : val xs = val ys * val qz + val rz := by rw [hvq4,hvr5,← HVE.out,← HVD.out];exact HDVV.out.1
 have f2 : val rz < val ys := by rw [hvr5,← HVE.out];exact HDVV.out.2
 have f4 := HYP.out;have a1 := zGA hcq4.1;have a2 := zGA hcr5.1;have f5 : val qz ≤ val xs := by
  have a3 := Int.mul_le_mul_of_nonneg_right (show 1 ≤ val ys by omega) a1;rw [Int.one_mul] at a3;omega
 have f5' : val rz ≤ val xs := by
  have a3 := Int.mul_nonneg (show 0 ≤ val ys by omega) a1;omega
 have f6 := zEB hcq4 (zHA WX.out) (by rw [zQA xs];exact f5);have f7 := zEB hcr5 (zHA WX.out) (by rw [zQA xs];exact f5');rw [length_lst xs] at f6 f7;have f8 := zOA xs;exact ⟨qz,rz,vq4,vr5,rfl,(HOQ.out.lower (by omega)).stay B5.out,HOR.out.lower (by omega),hcq4,hcr5,f1,f2,by omega,by omega,zKH HOQ.out HOR.out (Nat.le_refl _),below_step (below_step (below_step (below_step B1.out B2.out) B3.out) B4.out) B5.out⟩
theorem rtrunc_none {w : World} {va vb : Value} {A B : Int} {ka kb : Nat} (ha : Zi w va A ka) (hb : Zi w vb B kb) (hB : B = 0) (hl : kb ≤ 1099511627776) :
  Calls Tryz.prog 75 #[va,vb] w (zyA 4 w 0 0 ka ka) := by
 have za0 := ha;obtain ⟨na,xa,aa,ca,rfl,sa,ea,la⟩ := ha;have zb0 := hb;obtain ⟨nb,xb,ab,cb,rfl,sb,eb,lb⟩ := hb;obtain ⟨W0,hW0⟩ : ∃ W0,(((w.alloc (duo (.bool na) (.slice aa xa.length ca))).alloc (duo (.bool nb) (.slice ab xb.length cb))).alloc zbox).alloc zbox = W0 := ⟨_,rfl⟩
 obtain ⟨b0,sz0⟩ := zdC w (duo (.bool na) (.slice aa xa.length ca)) (duo (.bool nb) (.slice ab xb.length cb)) zbox zbox;rw [hW0] at b0 sz0;have pa : Duo W0 (w.heap.size) (.bool na) (.slice aa xa.length ca) := by rw [← hW0];exact zBA (zBA (zBA (zEA (by simp)) _) _) _
 have pb : Duo W0 (w.heap.size + 1) (.bool nb) (.slice ab xb.length cb) := by rw [← hW0];exact zBA (zBA (zEA (by simp)) _) _
 have r0 : Duo W0 (w.heap.size + 1 + 1) (.bool false) (.slice none 0 0) := by rw [← hW0];exact zBA (zEA (by simp)) _
 have r1 : Duo W0 (w.heap.size + 1 + 1 + 1) (.bool false) (.slice none 0 0) := by rw [← hW0];exact zEA (by simp)
 have Pa := hid pa;have ia0 := pa.c0;have ia1 := pa.c1;have Za := hid (za0.now b0);have Sa := hid (sa.now b0);have Pb := hid pb;have ib0 := pb.c0;have ib1 := pb.c1;have Zb := hid (zb0.now b0);have Sb := hid (sb.now b0);have R0 := hid r0;have R1 := hid r1;have EW := hid hW0;have G := hid b0;clear b0 hW0 za0 sa pa zb0 sb pb r0 r1;have HD := hid (rdivMod_zero (v := .slice aa xa.length ca) Sb.out ((zsC Sb.out.1 eb).2 hB) (by omega));have q4 : ((4 : Int) != 0) = true := rfl;clear ea eb hB;go_enter Tryz.func75,Tryz.ntmps75;go_wp2_with fail;rw [EW.out];clear ia0 ia1 ib0 ib1;refine HD.out.mono ?_;rintro e w1 ⟨rfl,b⟩;replace R0 := hid (R0.out.step b);replace R1 := hid (R1.out.step b);replace G := hid (below_step G.out b);clear b HD;have y00 := R0.out.c0;have y01 := R0.out.c1;have f00 := R0.out.fz 0;have f01 := R0.out.fz 1;have y10 := R1.out.c0;have y11 := R1.out.c1;have f10 := R1.out.fz 0;have f11 := R1.out.fz 1;go_wp2;refine bodyPost_ret (zback2 Tryz.results75 ((R0.out.set _ _).box (by omega) _ _) ((R1.out.box (by omega) _ _).set _ _) _ (by rfl) (by rfl) (by rfl)) rfl ?_;exact ⟨_,_,rfl,zQG _ _ _,zQG _ _ _,bset (bset (bset (bset G.out (by omega)) (by omega)) (by omega)) (by omega)⟩
theorem zbG {w : World} {va vb : Value} {A B : Int} {ka kb : Nat} (ha : Zi w va A ka) (hb : Zi w vb B kb) (hB : B ≠ 0) (hk : ka ≤ 1099511627776) (hl : kb ≤ 1099511627776) :
  Calls Tryz.prog 75 #[va,vb] w (zyA 0 w (A.tdiv B) (A.tmod B) ka ka) := by
 have za0 := ha;obtain ⟨na,xa,aa,ca,rfl,sa,ea,la⟩ := ha;have zb0 := hb;obtain ⟨nb,xb,ab,cb,rfl,sb,eb,lb⟩ := hb;obtain ⟨W0,hW0⟩ : ∃ W0,(((w.alloc (duo (.bool na) (.slice aa xa.length ca))).alloc (duo (.bool nb) (.slice ab xb.length cb))).alloc zbox).alloc zbox = W0 := ⟨_,rfl⟩
 obtain ⟨b0,sz0⟩ := zdC w (duo (.bool na) (.slice aa xa.length ca)) (duo (.bool nb) (.slice ab xb.length cb)) zbox zbox;rw [hW0] at b0 sz0;have pa : Duo W0 (w.heap.size) (.bool na) (.slice aa xa.length ca) := by rw [← hW0];exact zBA (zBA (zBA (zEA (by simp)) _) _) _
 have pb : Duo W0 (w.heap.size + 1) (.bool nb) (.slice ab xb.length cb) := by rw [← hW0];exact zBA (zBA (zEA (by simp)) _) _
 have r0 : Duo W0 (w.heap.size + 1 + 1) (.bool false) (.slice none 0 0) := by rw [← hW0];exact zBA (zEA (by simp)) _
 have r1 : Duo W0 (w.heap.size + 1 + 1 + 1) (.bool false) (.slice none 0 0) := by rw [← hW0];exact zEA (by simp)
 have Pa := hid pa;have ia0 := pa.c0;have ia1 := pa.c1;have Za := hid (za0.now b0);have Sa := hid (sa.now b0);have Pb := hid pb;have ib0 := pb.c0;have ib1 := pb.c1;have Zb := hid (zb0.now b0);have Sb := hid (sb.now b0);have R0 := hid r0;have R1 := hid r1;have EW := hid hW0;have G := hid b0;clear b0 hW0 za0 sa pa zb0 sb pb r0 r1;have HD := hid (rdivMod_any Sa.out Sb.out (fun e => hB ((zsC Sb.out.1 eb).1 e)) (by omega) (by omega));have HV : Hid (∀ qs rs,zbA rs → val xa = val xb * val qs + val rs → val rs < val xb → iv (na != nb) qs = A.tdiv B ∧ iv na rs = A.tmod B) := fun qs rs hr h h1 => by
  rw [← ea,← eb];exact zTI Sa.out.1 hr.1 h h1
 have q0 : ((0 : Int) != 0) = false := rfl;clear ea eb hB;go_enter Tryz.func75,Tryz.ntmps75;go_wp2_with fail;rw [EW.out];clear ia0 ia1 ib0 ib1;refine HD.out.mono ?_;rintro e w1 ⟨qs,rs,q,r,rfl,hoq,hor,hcq,hcr,hv,hlt,hlq,hlr,_,b⟩;obtain ⟨qa,qc,rfl⟩ := hoq.form;obtain ⟨ra,rc,rfl⟩ := hor.form;have MQ := hid hoq.sl;have MR := hid hor.sl;have HVV := hid (HV.out qs rs hcr hv hlt);have lw := b.size;replace Pa := hid (Pa.out.step b);have ia0 := Pa.out.c0;have ia1 := Pa.out.c1;replace Pb := hid (Pb.out.step b);have ib0 := Pb.out.c0;have ib1 := Pb.out.c1;replace R0 := hid (R0.out.step b);replace R1 := hid (R1.out.step b);replace G := hid (below_step G.out b);have KS : Hid (∀ w',Below w1.heap.size w1 w' → w'.cell? ⟨w.heap.size,0,none⟩ = some (.bool na) ∧ w'.cell? ⟨w.heap.size + 1,0,none⟩ = some (.bool nb)) := fun w' h => ⟨(Pa.out.step h).c0,(Pb.out.step h).c0⟩
 have H1 : Hid (∀ w',Below w1.heap.size w1 w' → _) := fun w' h => zVE (n := na != nb) (MQ.out.now h) (by omega)
 rw [HVV.out.1] at H1;have H2 : Hid (∀ w',Below w1.heap.size w1 w' → _) := fun w' h => zVE (n := na) (MR.out.now h) (by omega)
 rw [HVV.out.2] at H2;clear hoq hor hv hlt b HD HV ia1 ib1;go_wp2_with fail;go_region_held3 (fun w' => w'.cell? ⟨w.heap.size,0,none⟩ = some (.bool na) ∧ w'.cell? ⟨w.heap.size + 1,0,none⟩ = some (.bool nb))
  (first
   | ((try dsimp only);refine ⟨?_,?_⟩ <;> with_reducible (repeat (refine zuH (by omega) ?_)) <;> with_reducible assumption)
   | (refine KS.out _ ?_;repeat (first | with_reducible exact HP3.out | with_reducible exact HP2.out | with_reducible exact Below.refl _ _ | with_reducible apply Below.drew)))
  (first
   | (have _ := HP2;go_at_call 56;refine (H2.out _ (below_step HP2.out (by repeat (first | exact Below.refl _ _ | apply Below.drew)))).mono ?_;rintro e3 w3 ⟨r3,rfl,m3,b3⟩;have HB3 : Hid (Below w2.heap.size w2 w3) := below_step (w0 := w2) (by repeat (first | exact Below.refl _ _ | apply Below.drew)) b3;have HP3 := hid (below_step HP2.out HB3.out);obtain ⟨c30,c31⟩ := KS.out w3 HP3.out;have Z3 := hid m3;obtain ⟨n3,x3,a3,q3,rfl,-,-,-,-,-⟩ := m3;have RA := hid (R0.out.step HP3.out);have RB := hid (R1.out.step HP3.out);have y0 := RA.out.c0;have y1 := RA.out.c1;have y2 := RB.out.c0;have y3 := RB.out.c1;have f0 := RA.out.fz 0;have f1 := RA.out.fz 1;have f2 := RB.out.fz 0;have f3 := RB.out.fz 1)
   | (go_at_call 56;refine (H1.out _ (by repeat (first | exact Below.refl _ _ | apply Below.drew))).mono ?_;rintro e2 w2 ⟨r2,rfl,m2,b2⟩;have HP2 : Hid (Below w1.heap.size w1 w2) := below_step (w0 := w1) (by repeat (first | exact Below.refl _ _ | apply Below.drew)) b2;obtain ⟨c20,c21⟩ := KS.out w2 HP2.out;have Z2 := hid m2;obtain ⟨n2,x2,a2,q2,rfl,-,-,-,-,-⟩ := m2))
 all_goals go_wp2
 all_goals have le2 := HP2.out.size
 all_goals refine bodyPost_ret (zback2 Tryz.results75 ((RA.out.set _ _).box (by omega) _ _) ((RB.out.box (by omega) _ _).set _ _) _ (by rfl) (by rfl) (by rfl)) rfl ?_
 all_goals exact zGE (B := W0.heap.size) (((Z2.out.mono (by first | omega | (simp;omega))).now HB3.out).more (by omega)) ((Z3.out.mono (by first | omega | (simp;omega))).more (by omega)) (below_step G.out HP3.out) (by omega) (by omega) (by omega) (by omega)

end Go.Proofs.YtkklldokdnfkgaaGreat
