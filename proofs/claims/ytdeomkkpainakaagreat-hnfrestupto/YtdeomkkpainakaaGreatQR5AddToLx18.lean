/-
 QR5AddToLx18: R5Add, Rm12, Mat11, Lx18, joined.
-/
import Derived.Test.YtdeomkkpainakaaGreatQR5OnesToRSub
import Derived.Test.YtdeomkkpainakaaGreatQFil9ToRowsOf9
import Derived.Test.YtdeomkkpainakaaGreatQLm6ToRf11
import Derived.Test.YtdeomkkpainakaaGreatQEachM11ToPr12
import Derived.Test.YtdeomkkpainakaaGreatQPure9ToLeastA9

set_option maxRecDepth 100000
set_option maxHeartbeats 6400000
set_option linter.unusedVariables false
set_option linter.unusedSimpArgs false
namespace Go.Proofs.YtdeomkkpainakaaGreat
open Go.RowKit
theorem zrG {w : World} {va vb : Value} {A B : Int} {ka kb : Nat} (ha : Zi w va A ka) (hb : Zi w vb B kb) (hk : ka ≤ 1099511627776) (hl : kb ≤ 1099511627776) :
  Calls Tryz.prog 12 #[va,vb] w (zhA w (A + B) (max ka kb + 1)) := by
 have za0 := ha;obtain ⟨na,xa,aa,ca,rfl,sa,ea,la⟩ := ha;have zb0 := hb;obtain ⟨nb,xb,ab,cb,rfl,sb,eb,lb⟩ := hb;obtain ⟨W0,hW0⟩ : ∃ W0,((w.alloc (duo (.bool na) (.slice aa xa.length ca))).alloc (duo (.bool nb) (.slice ab xb.length cb))).alloc zbox = W0 := ⟨_,rfl⟩
 obtain ⟨b0,sz0⟩ := zOC w (duo (.bool na) (.slice aa xa.length ca)) (duo (.bool nb) (.slice ab xb.length cb)) zbox;rw [hW0] at b0 sz0;have pa : Duo W0 (w.heap.size) (.bool na) (.slice aa xa.length ca) := by rw [← hW0];exact zBA (zBA (zFA (by simp)) _) _
 have pb : Duo W0 (w.heap.size + 1) (.bool nb) (.slice ab xb.length cb) := by rw [← hW0];exact zBA (zFA (by simp)) _
 have r0 : Duo W0 (w.heap.size + 1 + 1) (.bool false) (.slice none 0 0) := by rw [← hW0];exact zFA (by simp)
 have Pa := hid pa;have ia0 := pa.c0;have ia1 := pa.c1;have Za := hid (za0.now b0);have Sa := hid (sa.now b0);have Pb := hid pb;have ib0 := pb.c0;have ib1 := pb.c1;have Zb := hid (zb0.now b0);have Sb := hid (sb.now b0);have R0 := hid r0;have EW := hid hW0;have G := hid b0;clear b0 hW0 za0 sa pa zb0 sb pb r0;have hxa := hid Sa.out.1;have hxb := hid Sb.out.1;have va0 := hid (zIA Sa.out.1);have vb0 := hid (zIA Sb.out.1)
 by_cases hnm : na = nb
 ·have hq : (na == nb) = true := by simp [hnm]
  have HV : Hid (∀ zs,val zs = val xa + val xb → iv na zs = A + B) := fun zs e => by
   rw [← ea,← eb];subst hnm;cases na <;> simp [iv,e] <;> omega
  have HLt : Hid (val xa + val xb < pw (max xa.length xb.length + 1)) := by
   have h1 := zWA hxa.out;have h2 := zWA hxb.out;have h3 := zsG (show xa.length ≤ max xa.length xb.length by omega);have h4 := zsG (show xb.length ≤ max xa.length xb.length by omega);unfold Hid;rw [pw,show wB = 18446744073709551616 from rfl];have := zfA (max xa.length xb.length);omega
  clear ea eb hnm;go_enter Tryz.func12,Tryz.ntmps12;go_wp2_with fail;rw [EW.out];clear ia0 ia1 ib0 ib1;refine (radd_any Sa.out Sb.out (by omega) (by omega)).mono ?_;rintro e w1 ⟨zs,r,rfl,ho,hc,hv,b⟩;obtain ⟨az,cz,rfl⟩ := ho.form;have hk1 : zs.length ≤ max xa.length xb.length + 1 := zrA hc (by rw [hv];exact HLt.out);have HM := hid ho.sl;have lw := b.size;have EV := hid (HV.out zs hv);replace Pa := hid (Pa.out.step b);have ia0 := Pa.out.c0;have ia1 := Pa.out.c1;replace Pb := hid (Pb.out.step b);have ib0 := Pb.out.c0;have ib1 := Pb.out.c1;replace R0 := hid (R0.out.step b);replace G := hid (below_step G.out b);clear b ho hc hv HV HLt;have HL : Hid (Calls Tryz.prog 29 #[.bool na,.slice az zs.length cz] w1 (zhA w1 (A + B) zs.length)) := by
   unfold Hid;have q := zqG (n := na) HM.out (by omega);rw [EV.out] at q;exact q
  go_wp2_with fail;clear ia0 ia1 ib0 ib1;refine (HL.out).mono ?_;rintro e w2 ⟨r,rfl,m2,b⟩;obtain ⟨n2,x2,a2,q2,rfl,-,-,-,-,-⟩ := id m2;replace R0 := hid (R0.out.step b);replace G := hid (below_step G.out b);have Z2 := hid ((m2.mono (B' := W0.heap.size) lw).more (l := max ka kb + 1) (by omega));clear b m2;have y00 := R0.out.c0;have y01 := R0.out.c1;have f00 := R0.out.fz 0;have f01 := R0.out.fz 1;go_wp2;exact bodyPost_ret (zLB Tryz.results12 (R0.out.set _ _) _ (by rfl)) rfl (zNC (B := W0.heap.size) Z2.out G.out (by omega) (by omega))
 ·have hq : (na == nb) = false := by simp [hnm]
  have HC : Hid (∀ w',Below W0.heap.size W0 w' → _) := fun w' h => zHG (Sa.out.now h) (Sb.out.now h) (by omega) (by omega)
  by_cases hge : val xb ≤ val xa
  ·have hcmp : 0 ≤ cmpI (val xa) (val xb) := by have := zwA hge;omega
   have HV : Hid (∀ zs,val zs = val xa - val xb → iv na zs = A + B) := fun zs e => by
    rw [← ea,← eb];cases na <;> cases nb <;> simp [iv,e] at hnm ⊢ <;> omega
   have HS : Hid (∀ w',Below W0.heap.size W0 w' → _) := fun w' h => zFG (Sa.out.now h) (Sb.out.now h) (by omega) (by omega) hge
   have HLt := hid (zWA hxa.out);generalize cmpI (val xa) (val xb) = C at *;clear ea eb hnm hge;go_enter Tryz.func12,Tryz.ntmps12;go_wp2_with fail;rw [EW.out];clear ia0 ia1 ib0 ib1;refine (HC.out W0 (Below.refl _ _)).mono ?_;rintro e w1 ⟨rfl,b⟩;have B1 := hid b;replace Pa := hid (Pa.out.step b);have ia0 := Pa.out.c0;have ia1 := Pa.out.c1;replace Pb := hid (Pb.out.step b);have ib0 := Pb.out.c0;have ib1 := Pb.out.c1;replace R0 := hid (R0.out.step b);replace G := hid (below_step G.out b);clear b;go_wp2_with fail;refine (HS.out w1 B1.out).mono ?_;rintro e w2 ⟨zs,r,rfl,ho,hc,hv,b⟩;obtain ⟨az,cz,rfl⟩ := ho.form;have hk1 : zs.length ≤ xa.length := zrA hc (by rw [hv];have h1 := va0.out;have h2 := vb0.out;have h3 := HLt.out;omega);have HM := hid ho.sl;have lw := Nat.le_trans B1.out.size b.size;have EV := hid (HV.out zs hv);clear ia0 ia1 ib0 ib1;replace Pa := hid (Pa.out.step b);have ia0 := Pa.out.c0;have ia1 := Pa.out.c1;replace Pb := hid (Pb.out.step b);have ib0 := Pb.out.c0;have ib1 := Pb.out.c1;replace R0 := hid (R0.out.step b);replace G := hid (below_step G.out b);clear b ho hc hv HV HLt;have HL : Hid (Calls Tryz.prog 29 #[.bool na,.slice az zs.length cz] w2 (zhA w2 (A + B) zs.length)) := by
    unfold Hid;have q := zqG (n := na) HM.out (by omega);rw [EV.out] at q;exact q
   go_wp2_with fail;clear ia0 ia1 ib0 ib1;refine (HL.out).mono ?_;rintro e w3 ⟨r,rfl,m3,b⟩;obtain ⟨n3,x3,a3,q3,rfl,-,-,-,-,-⟩ := id m3;replace R0 := hid (R0.out.step b);replace G := hid (below_step G.out b);have Z3 := hid ((m3.mono (B' := W0.heap.size) lw).more (l := max ka kb + 1) (by omega));clear b m3;have y00 := R0.out.c0;have y01 := R0.out.c1;have f00 := R0.out.fz 0;have f01 := R0.out.fz 1;go_wp2;exact bodyPost_ret (zLB Tryz.results12 (R0.out.set _ _) _ (by rfl)) rfl (zNC (B := W0.heap.size) Z3.out G.out (by omega) (by omega))
  ·have hcmp : ¬ 0 ≤ cmpI (val xa) (val xb) := by have := zpB (Int.lt_of_not_ge hge);omega
   have HV : Hid (∀ zs,val zs = val xb - val xa → iv nb zs = A + B) := fun zs e => by
    rw [← ea,← eb];cases na <;> cases nb <;> simp [iv,e] at hnm ⊢ <;> omega
   have HS : Hid (∀ w',Below W0.heap.size W0 w' → _) := fun w' h => zFG (Sb.out.now h) (Sa.out.now h) (by omega) (by omega) (by omega)
   have HLt := hid (zWA hxb.out);generalize cmpI (val xa) (val xb) = C at *;clear ea eb hnm hge;go_enter Tryz.func12,Tryz.ntmps12;go_wp2_with fail;rw [EW.out];clear ia0 ia1 ib0 ib1;refine (HC.out W0 (Below.refl _ _)).mono ?_;rintro e w1 ⟨rfl,b⟩;have B1 := hid b;replace Pa := hid (Pa.out.step b);have ia0 := Pa.out.c0;have ia1 := Pa.out.c1;replace Pb := hid (Pb.out.step b);have ib0 := Pb.out.c0;have ib1 := Pb.out.c1;replace R0 := hid (R0.out.step b);replace G := hid (below_step G.out b);clear b;go_wp2_with fail;refine (HS.out w1 B1.out).mono ?_;rintro e w2 ⟨zs,r,rfl,ho,hc,hv,b⟩;obtain ⟨az,cz,rfl⟩ := ho.form;have hk1 : zs.length ≤ xb.length := zrA hc (by rw [hv];have h1 := va0.out;have h2 := vb0.out;have h3 := HLt.out;omega);have HM := hid ho.sl;have lw := Nat.le_trans B1.out.size b.size;have EV := hid (HV.out zs hv);clear ia0 ia1 ib0 ib1;replace Pa := hid (Pa.out.step b);have ia0 := Pa.out.c0;have ia1 := Pa.out.c1;replace Pb := hid (Pb.out.step b);have ib0 := Pb.out.c0;have ib1 := Pb.out.c1;replace R0 := hid (R0.out.step b);replace G := hid (below_step G.out b);clear b ho hc hv HV HLt;have HL : Hid (Calls Tryz.prog 29 #[.bool nb,.slice az zs.length cz] w2 (zhA w2 (A + B) zs.length)) := by
    unfold Hid;have q := zqG (n := nb) HM.out (by omega);rw [EV.out] at q;exact q
   go_wp2_with fail;clear ia0 ia1 ib0 ib1;refine (HL.out).mono ?_;rintro e w3 ⟨r,rfl,m3,b⟩;obtain ⟨n3,x3,a3,q3,rfl,-,-,-,-,-⟩ := id m3;replace R0 := hid (R0.out.step b);replace G := hid (below_step G.out b);have Z3 := hid ((m3.mono (B' := W0.heap.size) lw).more (l := max ka kb + 1) (by omega));clear b m3;have y00 := R0.out.c0;have y01 := R0.out.c1;have f00 := R0.out.fz 0;have f01 := R0.out.fz 1;go_wp2;exact bodyPost_ret (zLB Tryz.results12 (R0.out.set _ _) _ (by rfl)) rfl (zNC (B := W0.heap.size) Z3.out G.out (by omega) (by omega))
theorem rmulAdd_z {w : World} {va vb vc : Value} {A B C : Int} {ka kb kc : Nat} (ha : Zi w va A ka) (hb : Zi w vb B kb) (hc : Zi w vc C kc) (hk : ka + kb ≤ 1099511627776) (hl : kc ≤ 1099511627776) :
  Calls Tryz.prog 27 #[va,vb,vc] w (zhA w (A * B + C) (max (ka + kb) kc + 1)) := by
 have za0 := ha;obtain ⟨na,xa,aa,ca,rfl,sa,ea,la⟩ := ha;have zb0 := hb;obtain ⟨nb,xb,ab,cb,rfl,sb,eb,lb⟩ := hb;have zc0 := hc;obtain ⟨nc,xc,ac,cc,rfl,sc,ec,lc⟩ := hc;obtain ⟨W0,hW0⟩ : ∃ W0,(((w.alloc (duo (.bool na) (.slice aa xa.length ca))).alloc (duo (.bool nb) (.slice ab xb.length cb))).alloc (duo (.bool nc) (.slice ac xc.length cc))).alloc zbox = W0 := ⟨_,rfl⟩
 obtain ⟨b0,sz0⟩ := zDC w (duo (.bool na) (.slice aa xa.length ca)) (duo (.bool nb) (.slice ab xb.length cb)) (duo (.bool nc) (.slice ac xc.length cc)) zbox;rw [hW0] at b0 sz0;have pa : Duo W0 (w.heap.size) (.bool na) (.slice aa xa.length ca) := by rw [← hW0];exact zBA (zBA (zBA (zFA (by simp)) _) _) _
 have pb : Duo W0 (w.heap.size + 1) (.bool nb) (.slice ab xb.length cb) := by rw [← hW0];exact zBA (zBA (zFA (by simp)) _) _
 have pc : Duo W0 (w.heap.size + 1 + 1) (.bool nc) (.slice ac xc.length cc) := by rw [← hW0];exact zBA (zFA (by simp)) _
 have r0 : Duo W0 (w.heap.size + 1 + 1 + 1) (.bool false) (.slice none 0 0) := by rw [← hW0];exact zFA (by simp)
 have Pa := hid pa;have ia0 := pa.c0;have ia1 := pa.c1;have Za := hid (za0.now b0);have Sa := hid (sa.now b0);have Pb := hid pb;have ib0 := pb.c0;have ib1 := pb.c1;have Zb := hid (zb0.now b0);have Sb := hid (sb.now b0);have Pc := hid pc;have ic0 := pc.c0;have ic1 := pc.c1;have Zc := hid (zc0.now b0);have Sc := hid (sc.now b0);have R0 := hid r0;have EW := hid hW0;have G := hid b0;clear b0 hW0 za0 sa pa zb0 sb pb zc0 sc pc r0;clear ea eb ec;go_enter Tryz.func27,Tryz.ntmps27;go_wp2_with fail;rw [EW.out];clear ia0 ia1 ib0 ib1 ic0 ic1;refine (rmul_z Za.out Zb.out (by omega) (by omega)).mono ?_;rintro e w1 ⟨r,rfl,m1,b⟩;obtain ⟨n1,x1,a1,q1,rfl,-,-,-,-,-⟩ := id m1;obtain ⟨W1,hW1⟩ : ∃ W1,w1.alloc (duo (.bool n1) (.slice a1 x1.length q1)) = W1 := ⟨_,rfl⟩
 obtain ⟨kW,sz1⟩ := zgE w1 (duo (.bool n1) (.slice a1 x1.length q1));rw [hW1] at kW sz1;have lw := b.size;have j0 : Duo W1 w1.heap.size (.bool n1) (.slice a1 x1.length q1) := by rw [← hW1];exact zFA rfl
 replace b := below_step b kW;replace Zc := hid (Zc.out.now b);replace Pc := hid (Pc.out.step b);have ic0 := Pc.out.c0;have ic1 := Pc.out.c1;replace R0 := hid (R0.out.step b);replace G := hid (below_step G.out b);have Z1 := hid (m1.now kW);have j1 := j0.c0;have j2 := j0.c1;rw [← hW1] at j1 j2 ic0 ic1;have EW1 := hid hW1;clear b m1 kW hW1 j0;go_wp2_with fail;rw [EW1.out];clear j1 j2 ic0 ic1;refine (zrG Z1.out.zi Zc.out hk hl).mono ?_;rintro e w2 ⟨r,rfl,m2,b⟩;obtain ⟨n2,x2,a2,q2,rfl,-,-,-,-,-⟩ := id m2;replace R0 := hid (R0.out.step b);replace G := hid (below_step G.out b);have Z2 := hid (m2.mono (B' := W0.heap.size) (by omega));clear b m2;have y00 := R0.out.c0;have y01 := R0.out.c1;have f00 := R0.out.fz 0;have f01 := R0.out.fz 1;go_wp2;exact bodyPost_ret (zLB Tryz.results27 (R0.out.set _ _) _ (by rfl)) rfl (zNC (B := W0.heap.size) Z2.out G.out (by omega) (by omega))
theorem Cel.ty12 {T T' : TypeId} {w w' : World} {b : Nat} {L : List Value} (h : Cel w b T L) (ht : Ty T' w w') (hT : T ≠ T') : Cel w' b T L := ht.2 b _ _ _ h hT
theorem Arr.ty12 {w : World} {g t : Nat} {ps : List (Value × Value)} (h : Arr w g ps) (x y : Value) : Ty 40 w ((w.setCell ⟨g,t * 2,none⟩ x).setCell ⟨g,t * 2 + 1,none⟩ y) :=
 (Ty.set h.1).trans (Ty.set (h.1.set _ _))
theorem zyC {r c i j : Nat} (hi : i < r) (hj : j < c) : i * c + j < r * c := by
 have : (i + 1) * c ≤ r * c := Nat.mul_le_mul_right c hi;rw [Nat.succ_mul] at this;omega
theorem Prs.isI12 {B : Nat} {w : World} {v : Value} {ps : List (Value × Value)} {zs : List Int} {k t : Nat} (h : Prs B w v ps) (hz : Zis w ps zs k) (ht : t < zs.length) : ∃ b off cap n a l c,v = .slice (some ⟨b,off,none⟩) zs.length cap ∧ w.cell? ⟨b,off + t * 2,none⟩ = some (.bool n) ∧ w.cell? ⟨b,off + t * 2 + 1,none⟩ = some (.slice a l c) ∧ Zi w (.agg #[.bool n,.slice a l c]) (zs.getD t 0) k := by
 obtain ⟨a0,c0,rfl,h2,h3,h4,h5⟩ := h.form;obtain ⟨b,off,rfl,-⟩ := h5 (fun e => by have := hz.1;rw [e] at this;simp at this;omega);have hp : ps[t]? = some (ps[t]'(by have := hz.1;omega)) := List.getElem?_eq_getElem (by have := hz.1;omega);have hq : zs[t]? = some (zs[t]) := List.getElem?_eq_getElem ht;have h6 := hz.2 t _ _ hp hq;obtain ⟨n,a,l,c,e⟩ := h6.isI;have h7 := h.at hp;have e' : ps[t]'(by have := hz.1;omega) = (.bool n,.slice a l c) := e;rw [e'] at h6 h7;refine ⟨b,off,c0,n,a,l,c,by rw [hz.1],h7.1,h7.2,?_⟩;have : zs.getD t 0 = zs[t] := by simp [ht]
 rw [this];exact h6
theorem make_yes {w : World} {B r c : Nat} {at_ : Value} {ps : List (Value × Value)} {zs : List Int} {k : Nat} (hA : Prs B w at_ ps) (hz : Zis w ps zs k) (hl : zs.length = r * c) (hr : r ≤ 64) (hc : c ≤ 64) :
  Calls Tryz.prog 38 #[.int .i64 (r : Int),.int .i64 (c : Int),at_] w (zUH w r c zs k) := by
 obtain ⟨W0,hW⟩ : ∃ W0,w.alloc mbox = W0 := ⟨_,rfl⟩
 obtain ⟨b0,sz0⟩ := alo1 w mbox;rw [hW] at b0 sz0;have PR := hid (zLG hW);have HE := hid (eachLeast_any (hA.now b0) (hz.now b0));have HS := hid (zvD (w := W0) hr hc);obtain ⟨a,cap,rfl,-,-,-,-⟩ := hA.form;have hm0 := zbC (i := r) (c := c) hr hc;have hpl : ps.length = r * c := by rw [hz.1,hl]
 rw [hpl] at HE ⊢;obtain ⟨n,hn⟩ : ∃ n,r * c = n := ⟨_,rfl⟩
 rw [hn] at hm0 HE ⊢;have hm2 := hm0;rw [IntKind.wrap_i64] at hm2;have q0 : ((n : Int) != (n : Int)) = false := by simp
 have G0 := hid b0;have EW := hid hW;have HL := hid hl;have HN := hid hn;have SZ := hid sz0;clear b0 sz0 hW hA hz hl hn hpl;go_enter Tryz.func38,Tryz.ntmps38;go_wp2_with fail;rw [EW.out];refine HS.out.mono ?_;rintro e w1 ⟨rfl,hw1⟩;have hw2 := hw1.symm;subst hw2;clear hw1 HS;go_wp2_with fail;refine HE.out.mono ?_;rintro e w2 ⟨u,qs,rfl,p1,p2,b⟩;have PR2 := hid (PR.out.step b);have G2 := hid (below_step G0.out b);obtain ⟨au,cu,rfl,-,-,-,-⟩ := p1.form;have hql : qs.length = n := by rw [p2.1,HL.out,HN.out]
 rw [hql] at p1 ⊢;have FIN : Hid (zUH w r c zs k (.returned (.tuple #[.agg #[.int .i64 (r : Int),.int .i64 (c : Int),.slice au n cu],.int .i64 0])) (put3 w2 w.heap.size (.int .i64 (r : Int)) (.int .i64 (c : Int)) (.slice au n cu))) :=
  ⟨_,rfl,⟨_,qs,rfl,(p1.put3 (by have := SZ.out;omega) _ _ _).mono (Nat.zero_le _),p2.wk (PR2.out.wk3 _ _ _),HL.out,hr,hc⟩,zHD G2.out (by omega) _ _ _⟩
 have PF := hid (PR2.out.put3 (.int .i64 (r : Int)) (.int .i64 (c : Int)) (.slice au n cu));have r0 := PR2.out.at (i := 0) rfl;have r1 := PR2.out.at (i := 1) rfl;have r2 := PR2.out.at (i := 2) rfl;have f0 := PR2.out.fz 0;have f1 := PR2.out.fz 1;have f2 := PR2.out.fz 2;clear HE p1 p2 b PR G0 G2 EW hql;go_wp2;exact bodyPost_ret (zvG Tryz.results38 PF.out _ (by rfl) (by rfl)) rfl FIN.out
theorem alikeX18_yes {w : World} {v u : Value} {z y : Int} {k l : Nat} (h : Zc w v z k) (h' : Zc w u y l) (hzy : z = y) :
  Calls Tryz.prog 33 #[v,u] w fun e w' => e = .returned (.bool true) ∧ Below w.heap.size w w' := by
 subst hzy;obtain ⟨n,xs,a,c,rfl,s0,q0,e0,z0,k0⟩ := h;obtain ⟨m,ys,b,d,rfl,s1,q1,e1,z1,k1⟩ := h';obtain ⟨rfl,rfl⟩ := iv_one (z0.trans z1.symm) q0 q1 e0 e1;obtain ⟨W0,hW⟩ : ∃ W0,(w.alloc (duo (.bool n) (.slice a xs.length c))).alloc (duo (.bool n) (.slice b xs.length d)) = W0 := ⟨_,rfl⟩
 have b0 := (zaA w (duo (.bool n) (.slice a xs.length c)) (duo (.bool n) (.slice b xs.length d))).1;rw [hW] at b0;have P2 : Hid (Duo W0 w.heap.size (.bool n) (.slice a xs.length c)) := by unfold Hid;rw [← hW];exact (Duo.new w _ _).later (by simp) _
 have P3 : Hid (Duo W0 (w.heap.size + 1) (.bool n) (.slice b xs.length d)) := by
  unfold Hid;rw [← hW];have := Duo.new (w.alloc (duo (.bool n) (.slice a xs.length c))) (.bool n) (.slice b xs.length d)
  simpa using this
 have HC := hid (same_yes (s0.now b0) (s1.now b0) rfl);have B0 := hid b0;have x1 := P2.out.c1;have y1 := P3.out.c1;rw [← hW] at x1 y1;have EW := hid hW;have hq : (n == n) = true := by simp
 clear s0 s1 z0 z1 b0 q0 q1 e0 e1 hW;go_enter Tryz.func33,Tryz.ntmps33;go_wp2_with fail;rw [EW.out];refine HC.out.mono ?_;rintro e w1 ⟨rfl,b1⟩;have B1 := hid (below_step B0.out b1);have x0 := (P2.out.step b1).c0;have y0 := (P3.out.step b1).c0;clear b1 HC x1 y1 EW;go_wp2;go_ret;exact ⟨rfl,B1.out⟩
theorem ztB {w : World} {B B' k l : Nat} {va vb : Value} {ps qs : List (Value × Value)} {zs : List Int} (ha : Prs B w va ps) (hza : Zcs w ps zs k) (hb : Prs B' w vb qs) (hzb : Zcs w qs zs l) :
  Calls Tryz.prog 14 #[va,vb] w fun e w' => e = .returned (.bool true) ∧ Below w.heap.size w w' := by
 have A0 := hid ha;have B0 := hid hb;have ZA := hid hza;have ZB := hid hzb;obtain ⟨aa,ca,rfl,hca,hna,-,hfa⟩ := ha.form;obtain ⟨ab,cb,rfl,hcb,hnb,-,hfb⟩ := hb.form;obtain ⟨n,hn⟩ : ∃ n,zs.length = n := ⟨_,rfl⟩
 rw [hza.1,hn] at A0 hca hna ⊢;rw [hzb.1,hn] at B0 hcb hnb ⊢;have FA : Hid (n ≠ 0 → ∃ b off,aa = some ⟨b,off,none⟩) := fun h => by
  obtain ⟨b,off,e,-⟩ := hfa (fun e => h (by rw [← hn,← hza.1,e];rfl));exact ⟨b,off,e⟩
 have FB : Hid (n ≠ 0 → ∃ b off,ab = some ⟨b,off,none⟩) := fun h => by
  obtain ⟨b,off,e,-⟩ := hfb (fun e => h (by rw [← hn,← hzb.1,e];rfl));exact ⟨b,off,e⟩
 have HN := hid hn;have H0 : Hid (zII w n n (.int .i64 0) w) := ⟨0,rfl,Nat.zero_le _,by omega,Below.refl _ _⟩
 have q0 : ((n : Int) != (n : Int)) = false := by simp
 clear ha hb hza hzb hfa hfb hn;go_enter Tryz.func14,Tryz.ntmps14;go_wp2_with fail
 go_loopg [5] n (fun gk s5 wx => zII w n gk s5 wx)
 case atStart => exact H0.out
 case round =>
  clear H0;obtain ⟨i,rfl,hin,hg,hG⟩ := hrel;have G := hid hG;have HG := hid hg;clear hG hg
  by_cases hlt : i < n
  ·have hlt' : (i : Int) < (n : Int) := by omega
   obtain ⟨b1,o1,rfl⟩ := FA.out (by omega);obtain ⟨b2,o2,rfl⟩ := FB.out (by omega);obtain ⟨nf,xf,adf,qf,k0,k1,zf⟩ := Zcs.at9 (A0.out.now G.out) (ZA.out.now G.out) (i := i) (by rw [HN.out];exact hlt);obtain ⟨ng,xg,adg,qg,k2,k3,zg⟩ := Zcs.at9 (B0.out.now G.out) (ZB.out.now G.out) (i := i) (by rw [HN.out];exact hlt);have HS : Hid (∀ w',Below wr.heap.size wr w' → Calls Tryz.prog 33 #[.agg #[.bool nf,.slice adf xf.length qf],.agg #[.bool ng,.slice adg xg.length qg]] w' fun e w'' => e = .returned (.bool true) ∧ Below w'.heap.size w' w'') := fun w' h => alikeX18_yes (zf.now h) (zg.now h) rfl
   clear zf zg;have hw := zVA (i := i) (by omega);go_wp2_with fail;have KB : Hid (∀ w',Below wr.heap.size wr w' → w'.cell? ⟨b1,o1 + i * 2,none⟩ = some (.bool nf) ∧ w'.cell? ⟨b1,o1 + i * 2 + 1,none⟩ = some (.slice adf xf.length qf) ∧ w'.cell? ⟨b2,o2 + i * 2,none⟩ = some (.bool ng) ∧ w'.cell? ⟨b2,o2 + i * 2 + 1,none⟩ = some (.slice adg xg.length qg)) := fun w' h => ⟨cnow h k0,cnow h k1,cnow h k2,cnow h k3⟩
   refine zEA (fun w' => w'.cell? ⟨b1,o1 + i * 2,none⟩ = some (.bool nf) ∧ w'.cell? ⟨b1,o1 + i * 2 + 1,none⟩ = some (.slice adf xf.length qf) ∧ w'.cell? ⟨b2,o2 + i * 2,none⟩ = some (.bool ng) ∧ w'.cell? ⟨b2,o2 + i * 2 + 1,none⟩ = some (.slice adg xg.length qg)) 9 (by kernel_rfl) ?_;obtain ⟨D1,hD⟩ : ∃ D1,wr.drew = D1 := ⟨_,rfl⟩
   have GB : Hid (Below wr.heap.size wr D1) := by unfold Hid;rw [← hD];exact (Below.refl _ _).drew
   rw [hD];clear hD;refine zCA (i := 0) (oi := ⟨some 18,.move (.tmp 0),22, "law.go:95",#[],none⟩) (v := (.slice (some ⟨b1,o1,none⟩) n ca)) rfl (by kernel_rfl) (fun _ _ _ h => h) (Or.inl ⟨by rfl,?_⟩) (KB.out _ GB.out) ?_
   ·intro w hSw;(try dsimp only at hSw);go_simp
   simp only [Act.put,sIb,sC0,sC1];refine zCA (i := 1) (oi := ⟨some 19,.move (.tmp 5),3, "law.go:95",#[],none⟩) (v := (.int .i64 (i : Int))) rfl (by kernel_rfl) (fun _ _ _ h => h) (Or.inl ⟨by rfl,?_⟩) (KB.out _ GB.out) ?_
   ·intro w hSw;(try dsimp only at hSw);go_simp
   simp only [Act.put,sIb,sC0,sC1];refine zCA (i := 2) (oi := ⟨some 20,.indexAddr 22 (.tmp 18) (.tmp 19),0, "law.go:95",#[⟨0,.data⟩,⟨1,.data⟩],none⟩) (v := (.pointer (some ⟨b1,o1 + i * 2,none⟩))) rfl (by kernel_rfl) (fun _ _ _ h => h) (Or.inl ⟨by rfl,?_⟩) (KB.out _ GB.out) ?_
   ·intro w hSw;(try dsimp only at hSw);go_simp
   simp only [Act.put,sIb,sC0,sC1];refine zCA (i := 3) (oi := ⟨some 21,.load 40 (.tmp 20),40, "law.go:95",#[⟨2,.data⟩],none⟩) (v := (.agg #[.bool nf,.slice adf xf.length qf])) rfl (by kernel_rfl) (fun _ _ _ h => h) (Or.inl ⟨by rfl,?_⟩) (KB.out _ GB.out) ?_
   ·intro w hSw;(try dsimp only at hSw);go_simp
   simp only [Act.put,sIb,sC0,sC1];refine zCA (i := 4) (oi := ⟨some 22,.move (.tmp 1),22, "law.go:95",#[],none⟩) (v := (.slice (some ⟨b2,o2,none⟩) n cb)) rfl (by kernel_rfl) (fun _ _ _ h => h) (Or.inl ⟨by rfl,?_⟩) (KB.out _ GB.out) ?_
   ·intro w hSw;(try dsimp only at hSw);go_simp
   simp only [Act.put,sIb,sC0,sC1];refine zCA (i := 5) (oi := ⟨some 23,.move (.tmp 5),3, "law.go:95",#[],none⟩) (v := (.int .i64 (i : Int))) rfl (by kernel_rfl) (fun _ _ _ h => h) (Or.inl ⟨by rfl,?_⟩) (KB.out _ GB.out) ?_
   ·intro w hSw;(try dsimp only at hSw);go_simp
   simp only [Act.put,sIb,sC0,sC1];refine zCA (i := 6) (oi := ⟨some 24,.indexAddr 22 (.tmp 22) (.tmp 23),0, "law.go:95",#[⟨4,.data⟩,⟨5,.data⟩],none⟩) (v := (.pointer (some ⟨b2,o2 + i * 2,none⟩))) rfl (by kernel_rfl) (fun _ _ _ h => h) (Or.inl ⟨by rfl,?_⟩) (KB.out _ GB.out) ?_
   ·intro w hSw;(try dsimp only at hSw);go_simp
   simp only [Act.put,sIb,sC0,sC1];refine zCA (i := 7) (oi := ⟨some 25,.load 40 (.tmp 24),40, "law.go:95",#[⟨6,.data⟩],none⟩) (v := (.agg #[.bool ng,.slice adg xg.length qg])) rfl (by kernel_rfl) (fun _ _ _ h => h) (Or.inl ⟨by rfl,?_⟩) (KB.out _ GB.out) ?_
   ·intro w hSw;(try dsimp only at hSw);go_simp
   simp only [Act.put,sIb,sC0,sC1];refine zAA (i := 8) (o := ⟨some 26,.call { callee := .value (.func 33),args := #[.tmp 21,.tmp 25],argTypes := #[40,40] },4, "law.go:95",#[⟨3,.data⟩,⟨7,.data⟩],none⟩) (by kernel_rfl) rfl (fun K hK => ?_);go_simp;go_at_call 33;refine (HS.out _ GB.out).mono ?_;rintro e w2 ⟨rfl,b⟩;have lz2 := (show Below _ _ _ from b).size;replace GB := hid (below_step GB.out b);have G1 := hid (below_step G.out GB.out);clear b;refine hK.out _ _ (fun _ => KB.out _ GB.out) ?_;clear hK;refine zAA (i := 9) (o := ⟨some 6,.assign (.tmp 26),4, "law.go:95",#[⟨8,.data⟩,⟨8,.chain⟩,⟨0,.phase⟩,⟨1,.phase⟩,⟨2,.phase⟩,⟨3,.phase⟩,⟨4,.phase⟩,⟨5,.phase⟩,⟨6,.phase⟩,⟨7,.phase⟩,⟨8,.phase⟩],none⟩) (by kernel_rfl) rfl (fun K hK => ?_);go_simp;refine hK.out _ _ (fun h => absurd h (by decide)) ?_;clear hK
   try simp only [Act.put]
   refine zDA (by kernel_rfl) ?_ _;have HN1 : Hid (zII w n (n - (i + 1)) (.int .i64 ((i + 1 : Nat) : Int)) w2) := ⟨i + 1,rfl,by omega,rfl,G1.out⟩
   have HMM : Hid (n - (i + 1) < gk) := by unfold Hid;rw [HG.out];omega
   clear HS G HG G1 GB KB;go_wp2_with fail;go_roundg (n - (i + 1))
   case rel => exact HN1.out
   case measure => exact HMM.out
  ·have hlt' : ¬ (i : Int) < (n : Int) := by omega
   clear HG;go_wp2;go_ret;exact ⟨rfl,G.out⟩
theorem alikeMatsX18_yes {w : World} {va vb : Value} {r c k l : Nat} {zs ys : List Int} (ha : Mc w va r c zs k) (hb : Mc w vb r c ys l) (he : zs = ys) :
  Calls Tryz.prog 16 #[va,vb] w fun e w' => e = .returned (.bool true) ∧ Below w.heap.size w w' := by
 subst he;obtain ⟨ata,pa,rfl,pa1,pa2,-,-,-⟩ := ha;obtain ⟨atb,pb,rfl,pb1,pb2,-,-,-⟩ := hb;obtain ⟨W0,hW⟩ : ∃ W0,(w.alloc (matO r c ata)).alloc (matO r c atb) = W0 := ⟨_,rfl⟩
 obtain ⟨b0,sz0⟩ := zaA w (matO r c ata) (matO r c atb);rw [hW] at b0;have qa : Cel W0 w.heap.size 24 (matc r c ata) := by
  rw [← hW];exact (Cel.new w 24 (matc r c ata)).step ((Below.refl _ _).alloc (Nat.le_refl _) _)
 have qb : Cel W0 (w.heap.size + 1) 24 (matc r c atb) := by
  rw [← hW];have := Cel.new (w.alloc (matO r c ata)) 24 (matc r c atb)
  simpa using this
 have HS := hid (ztB (pa1.now b0) (pa2.now b0) (pb1.now b0) (pb2.now b0));obtain ⟨aa,ca,rfl,-,-,-,-⟩ := pa1.form;obtain ⟨ab,cb,rfl,-,-,-,-⟩ := pb1.form;have x2 := qa.at (i := 2) rfl;have y2 := qb.at (i := 2) rfl;rw [← hW] at x2 y2;have QA := hid qa;have QB := hid qb;have q0 : ((r : Int) == (r : Int)) = true := by simp
 have q1 : ((c : Int) == (c : Int)) = true := by simp
 have G0 := hid b0;have EW := hid hW;clear b0 sz0 hW qa qb pa1 pa2 pb1 pb2;go_enter Tryz.func16,Tryz.ntmps16;go_wp2_with fail;rw [EW.out];refine HS.out.mono ?_;rintro e w1 ⟨rfl,b⟩;have x0 := (QA.out.step b).at (i := 0) rfl;have x1 := (QA.out.step b).at (i := 1) rfl;have y0 := (QB.out.step b).at (i := 0) rfl;have y1 := (QB.out.step b).at (i := 1) rfl;have G1 := hid (below_step G0.out b);clear b HS x2 y2 EW QA QB;go_wp2;go_ret;exact ⟨rfl,G1.out⟩
theorem znE {w : World} {r c : Int} {a : Option Addr} {l cap : Nat} (hl : l ≤ 1048576) : Calls Tryz.prog 5 #[.agg #[.int .i64 r,.int .i64 c,.slice a l cap]] w (zYC w r c l) := by
 have b0 := (alo1 w (.cells #[.int .i64 r,.int .i64 c,.slice a l cap] 24)).1;have P1 := Cel.new w 24 [.int .i64 r,.int .i64 c,.slice a l cap];have x0 := P1.at (i := 0) rfl;have x1 := P1.at (i := 1) rfl;have x2 := P1.at (i := 2) rfl;have G0 := hid b0;clear b0 P1
 by_cases h1 : 0 ≤ r
 case neg =>
  have FIN : Hid (zYC w r c l (.returned (.bool false)) (w.alloc (.cells #[.int .i64 r,.int .i64 c,.slice a l cap] 24))) := ⟨false,rfl,⟨(fun e => by cases e),(fun e => by unfold Snd at e;omega)⟩,G0.out⟩
  go_enter Tryz.func5,Tryz.ntmps5;go_wp2;go_ret;exact FIN.out
 by_cases h2 : r ≤ 64
 case neg =>
  have FIN : Hid (zYC w r c l (.returned (.bool false)) (w.alloc (.cells #[.int .i64 r,.int .i64 c,.slice a l cap] 24))) := ⟨false,rfl,⟨(fun e => by cases e),(fun e => by unfold Snd at e;omega)⟩,G0.out⟩
  go_enter Tryz.func5,Tryz.ntmps5;go_wp2;go_ret;exact FIN.out
 by_cases h3 : 0 ≤ c
 case neg =>
  have FIN : Hid (zYC w r c l (.returned (.bool false)) (w.alloc (.cells #[.int .i64 r,.int .i64 c,.slice a l cap] 24))) := ⟨false,rfl,⟨(fun e => by cases e),(fun e => by unfold Snd at e;omega)⟩,G0.out⟩
  go_enter Tryz.func5,Tryz.ntmps5;go_wp2;go_ret;exact FIN.out
 by_cases h4 : c ≤ 64
 case neg =>
  have FIN : Hid (zYC w r c l (.returned (.bool false)) (w.alloc (.cells #[.int .i64 r,.int .i64 c,.slice a l cap] 24))) := ⟨false,rfl,⟨(fun e => by cases e),(fun e => by unfold Snd at e;omega)⟩,G0.out⟩
  go_enter Tryz.func5,Tryz.ntmps5;go_wp2;go_ret;exact FIN.out
 have hm : 0 ≤ r * c ∧ r * c ≤ 64 * 64 := ⟨Int.mul_nonneg h1 h3,Int.mul_le_mul h2 h4 h3 (by omega)⟩
 have hw : IntKind.i64.wrap (r * c) = r * c := by rw [zYA] <;> omega
 obtain ⟨q,hq⟩ : ∃ q,r * c = q := ⟨_,rfl⟩
 have HQ := hid hq;replace hw : IntKind.i64.wrap (r * c) = q := hw.trans hq;have hw2 := hw;rw [IntKind.wrap_i64] at hw2;rw [hq] at hm
 by_cases h5 : (l : Int) = q
 case neg =>
  have h6 : ((l : Int) == q) = false := by simpa using h5
  have FIN : Hid (zYC w r c l (.returned (.bool false)) (w.alloc (.cells #[.int .i64 r,.int .i64 c,.slice a l cap] 24))) := ⟨false,rfl,⟨(fun e => by cases e),(fun e => by unfold Snd at e;rw [HQ.out] at e;exact absurd e.2.2.2.2 h5)⟩,G0.out⟩
  clear hq;go_enter Tryz.func5,Tryz.ntmps5;go_wp2;go_ret;exact FIN.out
 case pos =>
  have h6 : ((l : Int) == q) = true := by simpa using h5
  have FIN : Hid (zYC w r c l (.returned (.bool true)) (w.alloc (.cells #[.int .i64 r,.int .i64 c,.slice a l cap] 24))) := ⟨true,rfl,⟨fun _ => ⟨h1,h2,h3,h4,h5.trans HQ.out.symm⟩,fun _ => rfl⟩,G0.out⟩
  clear hq;go_enter Tryz.func5,Tryz.ntmps5;go_wp2;go_ret;exact FIN.out
end Go.Proofs.YtdeomkkpainakaaGreat
