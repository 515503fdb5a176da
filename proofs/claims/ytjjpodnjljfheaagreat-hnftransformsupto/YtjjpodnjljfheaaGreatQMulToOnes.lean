/-
 QMulToOnes: Mul, MulAll, Zed, Signed, Ones, joined.
-/
import Derived.Test.YtjjpodnjljfheaaGreatQCutToAdd
import Derived.Test.YtjjpodnjljfheaaGreatQLitsToNow

set_option maxRecDepth 100000
set_option maxHeartbeats 6400000
set_option linter.unusedVariables false
set_option linter.unusedSimpArgs false
namespace Go.Proofs.YtjjpodnjljfheaaGreat
open Go.RowKit
theorem znA (xs:List Int) (n:Nat):val xs=val (xs.take n)+pw n*val (xs.drop n):=by
 by_cases h:n≤xs.length
 ·exact val_halves xs h
 ·rw [List.take_of_length_le (by omega),List.drop_of_length_le (by omega)]
  simp [val]
theorem zlG {l S:Int} {n N:Nat} (h:l+pw n*S<pw (n+N)) (hl:0≤l):S<pw N:=by
 rw [zSB] at h;exact Int.lt_of_mul_lt_mul_left (show pw n*S<pw n*pw N by omega) (Int.le_of_lt (zwA n))
theorem zSD {xs ys zs:List Int} (hx:WF xs) (hy:WF ys) (hz:zPA zs) (h:val zs=val xs*val ys):zs.length≤xs.length+ys.length :=
 zxA hz (by rw [h];exact zBC hx hy)
theorem zgF {B:Nat} {w:World} {g k:Nat} {zs:List Int} (hB:B≤g) (hw:WF zs) (hk:zs.length=k) (hl:k≤35184372088832) (hr:Row w g (ws zs)):Mine B w (.slice (some ⟨g,0,none⟩) k k) zs:=by
 subst hk;exact ⟨hw,.inr ⟨g,[],zs.length,hB,hl,Nat.le_refl _,by simp,rfl,by simpa using hr⟩⟩
theorem zlC (xs ys:List Int) {n:Nat} (h:xs.length≤n):(xs ++ List.replicate (n-xs.length) 0 ++ ys).length=n+ys.length:=by
 simp
 omega
def ztG (N:Nat):Prop:=∀(w:World) (v u:Value) (xs ys:List Int),Sl w.heap.size w v xs→Sl w.heap.size w u ys→xs.length+ys.length≤35184372088832→xs.length+ys.length<N →
 Calls Tryz.prog 91 #[v,u] w (zKD w (val xs*val ys))
theorem two_end {xs ys P Q S:List Int} {n:Nat} (hx:zPA xs) (hy:zPA ys) (hn:n<xs.length) (hy0:ys≠[]) (hP:zPA P) (vP:val P=val (xs.take n)*val ys) (vQ:val Q=val (xs.drop n)*val ys) (hS:zPA S) (vS:val S=val Q+val (P.drop n)) :
  (P.take n).length≤n∧n+S.length≤xs.length+ys.length∧zPA (P.take n ++ List.replicate (n-(P.take n).length) 0 ++ S)∧val (P.take n ++ List.replicate (n-(P.take n).length) 0 ++ S)=val xs*val ys:=by
 have hl:(P.take n).length≤n:=by simp;omega
 have hj:=zbF (P.take n) S hl;have hv:val (P.take n)+pw n*val S=val xs*val ys:=two_halves (n:=n) (znA xs n) vP (znA P n) (by rw [vS,vQ]) rfl;have hlt:=zBC hx.1 hy.1;rw [←hv] at hlt;have h0:=zIA (hP.1.take n);have hS0:S≠[]:=by
  refine zaH ?_;have h1:0<val (xs.drop n):=zeD (zqC n hx) (by intro e;have:=congrArg List.length e;simp at this;omega);have h2:=zeD hy hy0;have h3:=Int.mul_pos h1 h2;have h4:=zIA (hP.1.rest n);rw [vS,vQ];omega
 refine ⟨hl,?_,zuD n (hP.1.take n) hS hS0,by rw [hj,hv]⟩;have h5:xs.length+ys.length=n+(xs.length+ys.length-n):=by omega
 rw [h5] at hlt;have:=zxA hS (zlG hlt h0);omega
theorem four_end {xs ys LL HH SA SB SS T X Y Z:List Int} {n:Nat} (hx:zPA xs) (hy:zPA ys) (hn:n<xs.length) (hn':n<ys.length)
  (hLL:zPA LL) (vLL:val LL=val (xs.take n)*val (ys.take n)) (hHH:zPA HH) (vHH:val HH=val (xs.drop n)*val (ys.drop n))
  (vSA:val SA=val (xs.take n)+val (xs.drop n)) (vSB:val SB=val (ys.take n)+val (ys.drop n)) (vSS:val SS=val SA*val SB) (vT:val T=val LL+val HH) (vX:val X=val SS-val T)
  (hY:zPA Y) (vY:val Y=val X+val (LL.drop n)) (hZ:zPA Z) (vZ:val Z=val HH+val (Y.drop n)) :
  (LL.take n).length≤n∧(Y.take n).length≤n∧n+(n+Z.length)≤xs.length+ys.length ∧
  zPA (LL.take n ++ List.replicate (n-(LL.take n).length) 0 ++ (Y.take n ++ List.replicate (n-(Y.take n).length) 0 ++ Z)) ∧
  val (LL.take n ++ List.replicate (n-(LL.take n).length) 0 ++ (Y.take n ++ List.replicate (n-(Y.take n).length) 0 ++ Z))=val xs*val ys:=by
 have hl:(LL.take n).length≤n:=by simp;omega
 have hm:(Y.take n).length≤n:=by simp;omega
 have hj1:=zbF (Y.take n) Z hm;have hj:=zbF (LL.take n) (Y.take n ++ List.replicate (n-(Y.take n).length) 0 ++ Z) hl;rw [hj1] at hj;have hv:val (LL.take n)+pw n*(val (Y.take n)+pw n*val Z)=val xs*val ys :=
  four_halves (n:=n) (znA xs n) (znA ys n) vLL vHH vSA vSB vSS vT vX (znA LL n) vY (znA Y n) vZ rfl
 have hlt:=zBC hx.1 hy.1;rw [←hv] at hlt;have h0:=zIA (hLL.1.take n);have h0':=zIA (hY.1.take n);have hZ0:Z≠[]:=by
  refine zaH ?_;have h1:0<val (xs.drop n):=zeD (zqC n hx) (by intro e;have:=congrArg List.length e;simp at this;omega);have h2:0<val (ys.drop n):=zeD (zqC n hy) (by intro e;have:=congrArg List.length e;simp at this;omega);have h3:=Int.mul_pos h1 h2;have h4:=zIA (hY.1.rest n);rw [vZ,vHH];omega
 have c1:=zuD n (hY.1.take n) hZ hZ0;have c1':Y.take n ++ List.replicate (n-(Y.take n).length) 0 ++ Z≠[]:=by
  intro e;exact hZ0 (List.append_eq_nil_iff.1 e).2
 refine ⟨hl,hm,?_,zuD n (hLL.1.take n) c1 c1',by rw [hj,hv]⟩;have h5:xs.length+ys.length=n+(n+(xs.length+ys.length-n-n)):=by omega
 rw [h5] at hlt;have h6:=zlG hlt h0;have:=zxA hZ (zlG h6 h0');omega
theorem byTwo_any {w:World} {va vb:Value} {xs ys:List Int} (ha:Sl w.heap.size w va xs) (hb:Sl w.heap.size w vb ys) (cx:zPA xs) (cy:zPA ys) (hl:xs.length+ys.length≤35184372088832) {n:Nat} (hn0:0<n) (hn:n<xs.length) (hy0:ys≠[]) (IH:ztG (xs.length+ys.length)) :
  Calls Tryz.prog 112 #[va,vb,.int .i64 (n:Int)] w (zKD w (val xs*val ys)):=by
 have LT:=hid (show (xs.take n).length=n by simp;omega);have LD:=hid (show (xs.drop n).length=xs.length-n by simp);have CX:=hid cx;have CY:=hid cy;have Y0:=hid hy0;have IH':=hid IH;clear IH cx cy hy0;go_enter Tryz.func112,Tryz.ntmps112;go_wp2_with fail;refine (zDC ha (by omega)).mono ?_;rintro e w1 ⟨vl,vr,rfl,hl1,hr1,k1⟩;have b1:=hb.now k1;have g1:=k1;clear ha hb k1;go_wp2_with fail;refine (IH'.out _ _ _ _ _ hl1 b1 (by rw [LT.out];omega) (by rw [LT.out];omega)).mono ?_;rintro e w2 ⟨P,vp,rfl,mp,cp,HP,k2⟩;have b2:=b1.now k2;have ra2:=hr1.now k2;have g2:=below_step g1 k2;replace cp:=hid cp;replace HP:=hid HP;clear hl1 b1 hr1 g1 k2;have p0:=mp.sl;clear mp;have LP:=hid (zSD (CX.out.1.take n) CY.out.1 cp.out HP.out);go_wp2_with fail;refine (zDC p0 (by omega)).mono ?_;rintro e w3 ⟨wl,wr,rfl,hl3,hr3,k3⟩;have b3:=b2.now k3;have ra3:=ra2.now k3;have g3:=below_step g2 k3;clear p0 b2 ra2 g2 k3;go_wp2_with fail;refine (IH'.out _ _ _ _ _ ra3 b3 (by rw [LD.out];omega) (by rw [LD.out];omega)).mono ?_;rintro e w4 ⟨Q,vq,rfl,mq,cq,HQ,k4⟩;have pl4:=hl3.now k4;have pr4:=hr3.now k4;have g4:=below_step g3 k4;replace cq:=hid cq;replace HQ:=hid HQ;clear ra3 b3 hl3 hr3 g3 k4;have q0:=mq.sl;clear mq;have LQ:=hid (zSD (CX.out.1.rest n) CY.out.1 cq.out HQ.out);have LPD:=hid (show (P.drop n).length≤P.length by simp);go_wp2_with fail;refine (zxD q0 pr4 (by have:=LQ.out;have:=LD.out;omega) (by have:=LPD.out;have:=LP.out;have:=LT.out;omega)).mono ?_;rintro e w5 ⟨S,vs,rfl,s0,cs,HS,ls,k5⟩;have pl5:=pl4.now k5;have g5:=below_step g4 k5;replace cs:=hid cs;replace HS:=hid HS;clear q0 pr4 pl4 g4 k5;clear ls;have E:=hid (two_end CX.out CY.out hn Y0.out cp.out HP.out HQ.out cs.out HS.out);clear cp HP HQ cs HS cq CX CY LP LQ LPD;go_wp2_with fail;refine (zmF pl5 s0 E.out.1 (by have:=E.out.2.1;omega)).mono ?_;rintro e w6 ⟨rfl,hr,k6⟩;have g6:=below_step g5 k6;go_wp2;go_ret;exact ⟨_,_,rfl,zgF g5.size E.out.2.2.1.1 (zlC _ _ E.out.1) (by have:=E.out.2.1;omega) hr,E.out.2.2.1,E.out.2.2.2,g6⟩
theorem byFour_any {w:World} {va vb:Value} {xs ys:List Int} (ha:Sl w.heap.size w va xs) (hb:Sl w.heap.size w vb ys) (cx:zPA xs) (cy:zPA ys) (hl:xs.length+ys.length≤35184372088832) {n:Nat} (hn0:0<n) (hn:n<xs.length) (hn':n<ys.length) (hx2:xs.length≤2*n) (h2n:2*n≤xs.length+1) (h64:64≤ys.length) (hyx:ys.length≤xs.length) (IH:ztG (xs.length+ys.length)) :
  Calls Tryz.prog 113 #[va,vb,.int .i64 (n:Int)] w (zKD w (val xs*val ys)):=by
 have LT:=hid (show (xs.take n).length=n by simp;omega);have LD:=hid (show (xs.drop n).length=xs.length-n by simp);have LT':=hid (show (ys.take n).length=n by simp;omega);have LD':=hid (show (ys.drop n).length=ys.length-n by simp);have CX:=hid cx;have CY:=hid cy;have IH':=hid IH;clear IH cx cy;go_enter Tryz.func113,Tryz.ntmps113;go_wp2_with fail;refine (zDC ha (by omega)).mono ?_;rintro e w1 ⟨vl,vr,rfl,hl1,hr1,k1⟩;have b1:=hb.now k1;have g1:=k1;clear ha hb k1;go_wp2_with fail;refine (zDC b1 (by omega)).mono ?_;rintro e w2 ⟨ul,ur,rfl,hl2,hr2,k2⟩;have la2:=hl1.now k2;have ra2:=hr1.now k2;have g2:=below_step g1 k2;clear b1 hl1 hr1 g1 k2;go_wp2_with fail;refine (IH'.out _ _ _ _ _ la2 hl2 (by rw [LT.out,LT'.out];omega) (by rw [LT.out,LT'.out];omega)).mono ?_;rintro e w3 ⟨LL,vp,rfl,mp,cLL,VLL,k3⟩;have la3:=la2.now k3;have ra3:=ra2.now k3;have lb3:=hl2.now k3;have rb3:=hr2.now k3;have g3:=below_step g2 k3;replace cLL:=hid cLL;replace VLL:=hid VLL;clear la2 ra2 hl2 hr2 g2 k3;have ll0:=mp.sl;clear mp;have NLL:=hid (zSD (CX.out.1.take n) (CY.out.1.take n) cLL.out VLL.out);go_wp2_with fail;refine (IH'.out _ _ _ _ _ ra3 rb3 (by rw [LD.out,LD'.out];omega) (by rw [LD.out,LD'.out];omega)).mono ?_;rintro e w4 ⟨HH,vq,rfl,mq,cHH,VHH,k4⟩;have la4:=la3.now k4;have ra4:=ra3.now k4;have lb4:=lb3.now k4;have rb4:=rb3.now k4;have ll4:=ll0.now k4;have g4:=below_step g3 k4;replace cHH:=hid cHH;replace VHH:=hid VHH;clear la3 ra3 lb3 rb3 ll0 g3 k4;have hh0:=mq.sl;clear mq;have NHH:=hid (zSD (CX.out.1.rest n) (CY.out.1.rest n) cHH.out VHH.out);go_wp2_with fail;refine (zxD la4 ra4 (by rw [LT.out];omega) (by rw [LD.out];omega)).mono ?_;rintro e w5 ⟨SA,vsa,rfl,sa0,cSA,VSA,lsa,k5⟩;have lb5:=lb4.now k5;have rb5:=rb4.now k5;have ll5:=ll4.now k5;have hh5:=hh0.now k5;have g5:=below_step g4 k5;replace cSA:=hid cSA;replace VSA:=hid VSA;replace lsa:=hid lsa;clear la4 ra4 lb4 rb4 ll4 hh0 g4 k5;have NSA:Hid (SA.length≤n+1):=by unfold Hid;have:=lsa.out;rw [LT.out,LD.out] at this;omega
 clear lsa;go_wp2_with fail;refine (zxD lb5 rb5 (by rw [LT'.out];omega) (by rw [LD'.out];omega)).mono ?_;rintro e w6 ⟨SB,vsb,rfl,sb0,cSB,VSB,lsb,k6⟩;have ll6:=ll5.now k6;have hh6:=hh5.now k6;have sa6:=sa0.now k6;have g6:=below_step g5 k6;replace cSB:=hid cSB;replace VSB:=hid VSB;replace lsb:=hid lsb;clear lb5 rb5 ll5 hh5 sa0 g5 k6;have NSB:Hid (SB.length≤n+1):=by unfold Hid;have:=lsb.out;rw [LT'.out,LD'.out] at this;omega
 clear lsb;go_wp2_with fail;refine (IH'.out _ _ _ _ _ sa6 sb0 (by have:=NSA.out;have:=NSB.out;omega) (by have:=NSA.out;have:=NSB.out;omega)).mono ?_;rintro e w7 ⟨SS,vss,rfl,ms,cSS,VSS,k7⟩;have ll7:=ll6.now k7;have hh7:=hh6.now k7;have g7:=below_step g6 k7;replace cSS:=hid cSS;replace VSS:=hid VSS;clear sa6 sb0 ll6 hh6 g6 k7;have ss0:=ms.sl;clear ms;have NSS:=hid (zSD cSA.out.1 cSB.out.1 cSS.out VSS.out);go_wp2_with fail;refine (zxD ll7 hh7 (by have:=NLL.out;rw [LT.out,LT'.out] at this;omega) (by have:=NHH.out;rw [LD.out,LD'.out] at this;omega)).mono ?_;rintro e w8 ⟨T,vt,rfl,t0,cT,VT,lt,k8⟩;have ll8:=ll7.now k8;have hh8:=hh7.now k8;have ss8:=ss0.now k8;have g8:=below_step g7 k8;replace cT:=hid cT;replace VT:=hid VT;clear ll7 hh7 ss0 g7 k8;clear lt;have GE:Hid (val T≤val SS):=by unfold Hid;rw [VT.out,VSS.out,VSA.out,VSB.out,VLL.out,VHH.out];exact cross_nonneg (zIA (CX.out.1.take n)) (zIA (CX.out.1.rest n)) (zIA (CY.out.1.take n)) (zIA (CY.out.1.rest n))
 go_wp2_with fail;refine (sub_now ss8 t0 GE.out).mono ?_;rintro e w9 ⟨X,xa,xc,rfl,x0,cXX,VX,lx,k9⟩;have ll9:=ll8.now k9;have hh9:=hh8.now k9;have g9:=below_step g8 k9;replace cXX:=hid cXX;replace VX:=hid VX;replace lx:=hid lx;clear ss8 t0 ll8 hh8 g8 k9;have NX:Hid (X.length≤n+1+(n+1)):=by unfold Hid;have:=lx.out;have:=NSS.out;have:=NSA.out;have:=NSB.out;omega
 clear lx;go_wp2_with fail;refine (zDC ll9 (by omega)).mono ?_;rintro e w10 ⟨wl,wr,rfl,hl9,hr9,k10⟩;have hh10:=hh9.now k10;have x10:=x0.now k10;have g10:=below_step g9 k10;clear ll9 hh9 x0 g9 k10;have NC:=hid (show (LL.drop n).length≤LL.length by simp);go_wp2_with fail;refine (zxD x10 hr9 (by have:=NX.out;omega) (by have:=NC.out;have:=NLL.out;rw [LT.out,LT'.out] at this;omega)).mono ?_;rintro e w11 ⟨Y,vy,rfl,y0,cYY,VY,ly,k11⟩;have hh11:=hh10.now k11;have l11:=hl9.now k11;have g11:=below_step g10 k11;replace cYY:=hid cYY;replace VY:=hid VY;replace ly:=hid ly;clear x10 hr9 hh10 hl9 g10 k11;have NY:Hid (Y.length<35184372088832):=by unfold Hid;have:=ly.out;have:=NX.out;have:=NC.out;have:=NLL.out;rw [LT.out,LT'.out] at this;omega
 clear ly;go_wp2_with fail;refine (zDC y0 (by omega)).mono ?_;rintro e w12 ⟨zl,zr,rfl,hl11,hr11,k12⟩;have hh12:=hh11.now k12;have l12:=l11.now k12;have g12:=below_step g11 k12;clear y0 hh11 l11 g11 k12;have ND:=hid (show (Y.drop n).length≤Y.length by simp);go_wp2_with fail;refine (zxD hh12 hr11 (by have:=NHH.out;rw [LD.out,LD'.out] at this;omega) (by have:=ND.out;have:=NY.out;omega)).mono ?_;rintro e w13 ⟨Z,vz,rfl,z0,cZ,VZ,lz,k13⟩;have l13:=l12.now k13;have m13:=hl11.now k13;have g13:=below_step g12 k13;replace cZ:=hid cZ;replace VZ:=hid VZ;clear hh12 hr11 l12 hl11 g12 k13;clear lz;have E:=hid (four_end CX.out CY.out hn hn' cLL.out VLL.out cHH.out VHH.out VSA.out VSB.out VSS.out VT.out VX.out cYY.out VY.out cZ.out VZ.out);have WZ:=hid ((cYY.out.1.take n).append (zZF (n-(Y.take n).length)) |>.append cZ.out.1);clear cLL VLL cHH VHH VSA VSB VSS VT VX cYY VY cZ VZ cXX cT cSS cSA cSB GE NLL NHH NSA NSB NSS NX NC NY ND CX CY IH' ;go_wp2_with fail;refine (zmF m13 z0 E.out.2.1 (by have:=E.out.2.2.1;omega)).mono ?_;rintro e w14 ⟨rfl,hr,k14⟩;have l14:=l13.now k14;have g14:=below_step g13 k14;have hj:=(zgF (Nat.le_refl _) WZ.out (zlC _ _ E.out.2.1) (by have:=E.out.2.2.1;omega) hr).sl;clear m13 z0 l13 g13 k14 hr;go_wp2_with fail;have HJ:=zmF l14 hj E.out.1 (by rw [zlC _ _ E.out.2.1];have:=E.out.2.2.1;omega);rw [zlC _ _ E.out.2.1] at HJ;refine HJ.mono ?_;rintro e w15 ⟨rfl,hr,k15⟩;have g15:=below_step g14 k15;clear HJ hj;go_wp2;go_ret;exact ⟨_,_,rfl,zgF g14.size E.out.2.2.2.1.1 (by rw [zlC _ _ E.out.1,zlC _ _ E.out.2.1]) (by have:=E.out.2.2.1;omega) hr,E.out.2.2.2.1,E.out.2.2.2.2,g15⟩
theorem ztG.less {M N:Nat} (h:ztG N) (hM:M≤N):ztG M:=fun w v u xs ys h1 h2 h3 h4=>h w v u xs ys h1 h2 h3 (by omega)
theorem zKD.as {w w':World} {s t:Int} {e:Ending} (h:zKD w s e w') (hst:s=t):zKD w t e w':=by subst hst;exact h
theorem mul_step {w:World} {va vb:Value} {xs ys:List Int} (ha:Sl w.heap.size w va xs) (hb:Sl w.heap.size w vb ys) (hl:xs.length+ys.length≤35184372088832) (IH:ztG (xs.length+ys.length)) :
  Calls Tryz.prog 91 #[va,vb] w (zKD w (val xs*val ys)):=by
 obtain ⟨a,ca,rfl⟩:∃a ca,va=.slice a xs.length ca:=by obtain ⟨_,a,ca,e,_⟩:=ha;exact ⟨a,ca,e⟩
 obtain ⟨b,cb,rfl⟩:∃b cb,vb=.slice b ys.length cb:=by obtain ⟨_,b,cb,e,_⟩:=hb;exact ⟨b,cb,e⟩
 have HT1:=hid (zAD ha);have HT2:=hid (zAD hb);have l1:=zWA xs;have l2:=zWA ys;have SX:=hid (ha.taken l1);have SY:=hid (hb.taken l2)
 change Hid (Sl w.heap.size w _ (lst xs)) at SX
 change Hid (Sl w.heap.size w _ (lst ys)) at SY
 have CX:=hid (canon_lst ha.1);have CY:=hid (canon_lst hb.1);have LX:=hid (zGA xs);have LY:=hid (zGA ys);have IH':=hid (IH.less (show wid xs+wid ys≤xs.length+ys.length by omega));rw [←val_lst xs,←val_lst ys];have hl2:wid xs+wid ys≤35184372088832:=by omega
 generalize lst xs=X at *;generalize lst ys=Y at *;generalize wid xs=n at *;generalize wid ys=m at *;clear IH ha hb hl
 by_cases hlt:n<m
 ·skip
  have hh:((m:Int)+1) / 2=(((m+1) / 2:Nat):Int):=by omega
  have hg1:2*((m+1) / 2)≤m+1∧m≤2*((m+1) / 2):=by omega
  generalize (m+1) / 2=h at *
  by_cases h0:n=0
  ·have hz:((n:Int) == 0)=true:=by rw [beq_iff_eq];omega
   go_enter Tryz.func91,Tryz.ntmps91;go_wp2_with fail;refine HT1.out.mono ?_;rintro e w1 ⟨rfl,rfl⟩;go_wp2_with fail;refine HT2.out.mono ?_;rintro e w1 ⟨rfl,rfl⟩;have h00:=hid h0;clear h0;go_wp2;go_ret;refine ⟨[],_,rfl,Mine.nil _ _,zWG,?_,Below.refl _ _⟩;have e0:X=[]:=List.eq_nil_of_length_eq_zero (by rw [LX.out];exact h00.out);rw [e0];simp [val]
  ·have hz:((n:Int) == 0)=false:=by rw [beq_eq_false_iff_ne];omega
   have hne:Hid (X≠[]):=by intro q;have:=LX.out;rw [q] at this;simp at this;omega
   by_cases h64:n<64
   ·skip
    go_enter Tryz.func91,Tryz.ntmps91;go_wp2_with fail;refine HT1.out.mono ?_;rintro e w1 ⟨rfl,rfl⟩;go_wp2_with fail;refine HT2.out.mono ?_;rintro e w1 ⟨rfl,rfl⟩;go_wp2_with fail;refine (byWord_any SY.out SX.out (by rw [LY.out,LX.out];omega)).mono ?_;rintro e w2 hm;obtain ⟨zs,r,rfl,m1,m2,m3,m4⟩:=hm;go_wp2;go_ret;exact zKD.as ⟨zs,r,rfl,m1,m2,m3,m4⟩ (Int.mul_comm _ _)
   ·by_cases hle:n≤h
    ·skip
     go_enter Tryz.func91,Tryz.ntmps91;go_wp2_with fail;refine HT1.out.mono ?_;rintro e w1 ⟨rfl,rfl⟩;go_wp2_with fail;refine HT2.out.mono ?_;rintro e w1 ⟨rfl,rfl⟩;go_wp2_with fail;refine (byTwo_any SY.out SX.out CY.out CX.out (by rw [LY.out,LX.out];omega) (by omega) (by rw [LY.out];omega) hne.out (IH'.out.less (by rw [LY.out,LX.out];omega))).mono ?_;rintro e w2 hm;obtain ⟨zs,r,rfl,m1,m2,m3,m4⟩:=hm;go_wp2;go_ret;exact zKD.as ⟨zs,r,rfl,m1,m2,m3,m4⟩ (Int.mul_comm _ _)
    ·skip
     go_enter Tryz.func91,Tryz.ntmps91;go_wp2_with fail;refine HT1.out.mono ?_;rintro e w1 ⟨rfl,rfl⟩;go_wp2_with fail;refine HT2.out.mono ?_;rintro e w1 ⟨rfl,rfl⟩;go_wp2_with fail;refine (byFour_any SY.out SX.out CY.out CX.out (by rw [LY.out,LX.out];omega) (by omega) (by rw [LY.out];omega) (by rw [LX.out];omega) (by rw [LY.out];omega) (by rw [LY.out];omega) (by rw [LX.out];omega) (by rw [LX.out,LY.out];omega) (IH'.out.less (by rw [LY.out,LX.out];omega))).mono ?_;rintro e w2 hm;obtain ⟨zs,r,rfl,m1,m2,m3,m4⟩:=hm;go_wp2;go_ret;exact zKD.as ⟨zs,r,rfl,m1,m2,m3,m4⟩ (Int.mul_comm _ _)
 ·skip
  have hh:((n:Int)+1) / 2=(((n+1) / 2:Nat):Int):=by omega
  have hg1:2*((n+1) / 2)≤n+1∧n≤2*((n+1) / 2):=by omega
  generalize (n+1) / 2=h at *
  by_cases h0:m=0
  ·have hz:((m:Int) == 0)=true:=by rw [beq_iff_eq];omega
   go_enter Tryz.func91,Tryz.ntmps91;go_wp2_with fail;refine HT1.out.mono ?_;rintro e w1 ⟨rfl,rfl⟩;go_wp2_with fail;refine HT2.out.mono ?_;rintro e w1 ⟨rfl,rfl⟩;have h00:=hid h0;clear h0;go_wp2;go_ret;refine ⟨[],_,rfl,Mine.nil _ _,zWG,?_,Below.refl _ _⟩;have e0:Y=[]:=List.eq_nil_of_length_eq_zero (by rw [LY.out];exact h00.out);rw [e0];simp [val]
  ·have hz:((m:Int) == 0)=false:=by rw [beq_eq_false_iff_ne];omega
   have hne:Hid (Y≠[]):=by intro q;have:=LY.out;rw [q] at this;simp at this;omega
   by_cases h64:m<64
   ·skip
    go_enter Tryz.func91,Tryz.ntmps91;go_wp2_with fail;refine HT1.out.mono ?_;rintro e w1 ⟨rfl,rfl⟩;go_wp2_with fail;refine HT2.out.mono ?_;rintro e w1 ⟨rfl,rfl⟩;go_wp2_with fail;refine (byWord_any SX.out SY.out (by rw [LX.out,LY.out];omega)).mono ?_;rintro e w2 hm;obtain ⟨zs,r,rfl,m1,m2,m3,m4⟩:=hm;go_wp2;go_ret;exact zKD.as ⟨zs,r,rfl,m1,m2,m3,m4⟩ (rfl)
   ·by_cases hle:m≤h
    ·skip
     go_enter Tryz.func91,Tryz.ntmps91;go_wp2_with fail;refine HT1.out.mono ?_;rintro e w1 ⟨rfl,rfl⟩;go_wp2_with fail;refine HT2.out.mono ?_;rintro e w1 ⟨rfl,rfl⟩;go_wp2_with fail;refine (byTwo_any SX.out SY.out CX.out CY.out (by rw [LX.out,LY.out];omega) (by omega) (by rw [LX.out];omega) hne.out (IH'.out.less (by rw [LX.out,LY.out];exact Nat.le_refl _))).mono ?_;rintro e w2 hm;obtain ⟨zs,r,rfl,m1,m2,m3,m4⟩:=hm;go_wp2;go_ret;exact zKD.as ⟨zs,r,rfl,m1,m2,m3,m4⟩ (rfl)
    ·skip
     go_enter Tryz.func91,Tryz.ntmps91;go_wp2_with fail;refine HT1.out.mono ?_;rintro e w1 ⟨rfl,rfl⟩;go_wp2_with fail;refine HT2.out.mono ?_;rintro e w1 ⟨rfl,rfl⟩;go_wp2_with fail;refine (byFour_any SX.out SY.out CX.out CY.out (by rw [LX.out,LY.out];omega) (by omega) (by rw [LX.out];omega) (by rw [LY.out];omega) (by rw [LX.out];omega) (by rw [LX.out];omega) (by rw [LY.out];omega) (by rw [LY.out,LX.out];omega) (IH'.out.less (by rw [LX.out,LY.out];exact Nat.le_refl _))).mono ?_;rintro e w2 hm;obtain ⟨zs,r,rfl,m1,m2,m3,m4⟩:=hm;go_wp2;go_ret;exact zKD.as ⟨zs,r,rfl,m1,m2,m3,m4⟩ (rfl)
theorem zzI:∀N,ztG N
 | 0=>fun w v u xs ys _ _ _ h=>absurd h (Nat.not_lt_zero _)
 | N+1=>fun w v u xs ys h1 h2 h3 h4=>mul_step h1 h2 h3 ((zzI N).less (by omega))
theorem mul_any {w:World} {va vb:Value} {xs ys:List Int} (ha:Sl w.heap.size w va xs) (hb:Sl w.heap.size w vb ys) (hl:xs.length+ys.length≤35184372088832) :
  Calls Tryz.prog 91 #[va,vb] w (zKD w (val xs*val ys)):=zzI _ w va vb xs ys ha hb hl (Nat.lt_succ_self _)
def iv (n:Bool) (xs:List Int):Int:=if n=true then -(val xs) else val xs
theorem zLF (xs:List Int):iv true xs = -(val xs):=by simp [iv]
theorem zkE (xs:List Int):iv false xs=val xs:=by simp [iv]
theorem zCJ (n:Bool):iv n []=0:=by cases n <;> simp [iv,val]
theorem zBJ (n:Bool) (xs:List Int):iv (!n) xs = -(iv n xs):=by cases n <;> simp [iv]
def Zi (w:World) (v:Value) (z:Int) (k:Nat):Prop :=
 ∃n xs a c,v=.agg #[.bool n,.slice a xs.length c]∧Sl w.heap.size w (.slice a xs.length c) xs∧iv n xs=z∧xs.length≤k
def Zm (B:Nat) (w:World) (v:Value) (z:Int) (k:Nat):Prop :=
 ∃n zs a c,v=.agg #[.bool n,.slice a zs.length c]∧Mine B w (.slice a zs.length c) zs∧zPA zs∧(zs=[]→n=false)∧iv n zs=z∧zs.length≤k
theorem Zi.now {w w':World} {v:Value} {z:Int} {k:Nat} (h:Zi w v z k) (hb:Below w.heap.size w w'):Zi w' v z k:=by
 obtain ⟨n,xs,a,c,h1,h2,h3,h4⟩:=h;exact ⟨n,xs,a,c,h1,h2.now hb,h3,h4⟩
theorem Zi.more {w:World} {v:Value} {z:Int} {k l:Nat} (h:Zi w v z k) (hl:k≤l):Zi w v z l:=by
 obtain ⟨n,xs,a,c,h1,h2,h3,h4⟩:=h;exact ⟨n,xs,a,c,h1,h2,h3,by omega⟩
theorem Zm.now {B:Nat} {w w':World} {v:Value} {z:Int} {k:Nat} (h:Zm B w v z k) (hb:Below w.heap.size w w'):Zm B w' v z k:=by
 obtain ⟨n,xs,a,c,h1,h2,h3,h4,h5,h6⟩:=h;exact ⟨n,xs,a,c,h1,h2.below hb,h3,h4,h5,h6⟩
theorem Zm.more {B:Nat} {w:World} {v:Value} {z:Int} {k l:Nat} (h:Zm B w v z k) (hl:k≤l):Zm B w v z l:=by
 obtain ⟨n,xs,a,c,h1,h2,h3,h4,h5,h6⟩:=h;exact ⟨n,xs,a,c,h1,h2,h3,h4,h5,by omega⟩
theorem Zm.mono {B B':Nat} {w:World} {v:Value} {z:Int} {k:Nat} (h:Zm B w v z k) (hB:B'≤B):Zm B' w v z k:=by
 obtain ⟨n,xs,a,c,h1,h2,h3,h4,h5,h6⟩:=h;exact ⟨n,xs,a,c,h1,h2.mono hB,h3,h4,h5,h6⟩
theorem Zm.zi {B:Nat} {w:World} {v:Value} {z:Int} {k:Nat} (h:Zm B w v z k):Zi w v z k:=by
 obtain ⟨n,xs,a,c,h1,h2,h3,h4,h5,h6⟩:=h;exact ⟨n,xs,a,c,h1,h2.sl,h5,h6⟩
theorem iv_one {n m:Bool} {xs ys:List Int} (h:iv n xs=iv m ys) (hx:zPA xs) (hy:zPA ys) (hn:xs=[]→n=false) (hm:ys=[]→m=false):n=m∧xs=ys:=by
 have h1:=zIA hx.1;have h2:=zIA hy.1;have key:∀ {zs:List Int},zPA zs→zs≠[]→val zs≠0:=fun hc hne e=>hne (zGC hc e)
 cases n <;> cases m
 ·simp only [zkE] at h
  exact ⟨rfl,zuE hx hy h⟩
 ·simp only [zkE,zLF] at h
  have e:ys=[]:=Classical.byContradiction fun q=>key hy q (by omega)
  exact absurd (hm e) (by simp)
 ·simp only [zkE,zLF] at h
  have e:xs=[]:=Classical.byContradiction fun q=>key hx q (by omega)
  exact absurd (hn e) (by simp)
 ·simp only [zLF] at h
  exact ⟨rfl,zuE hx hy (by omega)⟩
def zmA (w:World) (z:Int) (k:Nat) (e:Ending) (w':World):Prop:=∃r,e=.returned r∧Zm w.heap.size w' r z k∧Below w.heap.size w w'
theorem zhH {B:Nat} {w:World} {n:Bool} {zs:List Int} {a:Option Addr} {c k:Nat} (h:Mine B w (.slice a zs.length c) zs) (hc:zPA zs) (hk:zs.length≤k) :
  Zm B w (.agg #[.bool (n && decide (0<zs.length)),.slice a zs.length c]) (iv n zs) k:=by
 refine ⟨_,zs,a,c,rfl,h,hc,fun e=>by subst e;simp,?_,hk⟩
 by_cases e:zs=[]
 ·subst e;simp [zCJ]
 ·have:0<zs.length:=Nat.pos_of_ne_zero (fun q=>e (List.eq_nil_of_length_eq_zero q))
  simp [this]
def Duo (w:World) (b:Nat) (x y:Value):Prop:=w.heap[b]?=some (.cells #[x,y] 47 (0,0))
abbrev duo (x y:Value):Obj:=.cells #[x,y] 47
abbrev zbox:Obj:=.cells #[.bool false,.slice none 0 0] 47
theorem Duo.c0 {w:World} {b:Nat} {x y:Value} (h:Duo w b x y):w.cell? ⟨b,0,none⟩=some x:=by simp [World.cell?,show w.heap[b]?=_ from h]
theorem Duo.c1 {w:World} {b:Nat} {x y:Value} (h:Duo w b x y):w.cell? ⟨b,1,none⟩=some y:=by simp [World.cell?,show w.heap[b]?=_ from h]
theorem Duo.fz {w:World} {b:Nat} {x y:Value} (h:Duo w b x y) (i:Nat):w.frozen? ⟨b,i,none⟩=false:=by simp [World.frozen?,show w.heap[b]?=_ from h]
theorem Duo.below {w w':World} {b B:Nat} {x y:Value} (h:Duo w b x y) (hb:Below B w w') (hB:b<B):Duo w' b x y:=(hb.block b hB).trans h
theorem Duo.new (w:World) (x y:Value):Duo (w.alloc (duo x y)) w.heap.size x y:=heap_alloc_new w _
theorem Duo.later {w:World} {b:Nat} {x y:Value} (h:Duo w b x y) (hb:b<w.heap.size) (o:Obj):Duo (w.alloc o) b x y:=h.below ((Below.refl _ _).alloc (Nat.le_refl _) o) hb
theorem Duo.set {w:World} {b:Nat} {x y:Value} (h:Duo w b x y) (x' y':Value):Duo ((w.setCell ⟨b,0,none⟩ x').setCell ⟨b,1,none⟩ y') b x' y':=by
 have h':w.heap[b]?=some (.cells #[x,y] 47 (0,0)):=h;have hlt:b<w.heap.size:=(Array.getElem?_eq_some_iff.1 h').1;have e:w.heap[b]=.cells #[x,y] 47 (0,0):=(Array.getElem?_eq_some_iff.1 h').2;unfold Duo World.setCell;simp [hlt,Array.getElem_modify,e]
theorem zdB {f:Func} {s:Nat} (hr:f.results=#[ResultVar.cell s 47]) {W:World} {b:Nat} {x y:Value} (h:Duo W b x y) (tmps:Array Value) (ht:tmps[s]?=some (.pointer (some ⟨b,0,none⟩))) :
  (results f tmps).run Tryz.prog W=.ok (.agg #[x,y]) W:=by
 simp [results,hr,go_sem,ht,h.c0,h.c1]
theorem zgA (w:World) (n:Bool) (l:Nat) (a:Option Addr) (c:Nat) (hl:l≤35184372088832) :
  Calls Tryz.prog 68 #[.bool n,.slice a l c] w fun e w'=>e=.returned (.agg #[.bool (n && decide (0<l)),.slice a l c])∧Below w.heap.size w w':=by
 have k:=(Below.refl w.heap.size w).alloc (Nat.le_refl _) (duo (.bool (n && decide (0<l))) (.slice a l c));cases n
 ·go_enter Tryz.func68,Tryz.ntmps68
  go_wp2;exact bodyPost_ret (zdB Tryz.results68 (Duo.new w _ _) _ (by rfl)) rfl ⟨rfl,k⟩
 ·by_cases h:0<l
  ·have h':(0:Int)<(l:Int):=by omega
   simp only [h,decide_true,Bool.and_self] at k ⊢;go_enter Tryz.func68,Tryz.ntmps68;go_wp2;exact bodyPost_ret (zdB Tryz.results68 (Duo.new w _ _) _ (by rfl)) rfl ⟨rfl,k⟩
  ·have h':¬(0:Int)<(l:Int):=by omega
   simp only [h,decide_false,Bool.and_false] at k ⊢;go_enter Tryz.func68,Tryz.ntmps68;go_wp2;exact bodyPost_ret (zdB Tryz.results68 (Duo.new w _ _) _ (by rfl)) rfl ⟨rfl,k⟩
def Mk (w:World) (s:Int) (k:Nat) (e:Ending) (w':World):Prop :=
 ∃zs a c,e=.returned (.slice a zs.length c)∧Mine w.heap.size w' (.slice a zs.length c) zs∧zPA zs∧val zs=s∧zs.length≤k∧Below w.heap.size w w'
theorem zgE {B:Nat} {w:World} {g:Nat} {zs:List Int} {r:List Value} {cap:Nat} (hB:B≤g) (hw:WF zs) (hc:cap=zs.length+r.length) (hm:cap≤35184372088832) (hr:Row w g (ws zs ++ r)):Mine B w (.slice (some ⟨g,0,none⟩) zs.length cap) zs :=
 ⟨hw,.inr ⟨g,r,cap,hB,by omega,by omega,.inr ⟨hc,by unfold maxLen;omega⟩,rfl,hr⟩⟩
theorem ziE {w:World} {v:Value} {xs:List Int} (h:Sl w.heap.size w v xs):Calls Tryz.prog 69 #[v] w (Mk w (val xs) xs.length) :=
 (least_any h).mono fun e w' ⟨h1,h2,h3,h4⟩=>by
  have hx:=h.1;obtain ⟨_,a,cap,_,h6,h7,_⟩:=h;have:=zWA xs;have hl:=zGA xs;refine ⟨lst xs,some ⟨w.heap.size,0,none⟩,wid xs,by rw [h1,hl],?_,canon_lst hx,val_lst xs,by omega,h3⟩;exact zgE (r:=[]) (Nat.le_refl _) (canon_lst hx).1 (by simp [hl]) (by omega) (by simpa using h2)
theorem add_m {w:World} {v u:Value} {xs ys:List Int} (h:Sl w.heap.size w v xs) (h':Sl w.heap.size w u ys) (hl:xs.length<35184372088832) (hl':ys.length<35184372088832) :
  Calls Tryz.prog 107 #[v,u] w (Mk w (val xs+val ys) (max xs.length ys.length+1)) :=
 (zUI h h' hl hl').mono fun e w' hadd=>by
  obtain ⟨zs,cap,r,rfl,hc,hv,hk,hcap,hm,hr,hb,hs⟩:=hadd;have:=zWA xs;have:=zWA ys;exact ⟨zs,_,cap,rfl,zgE (Nat.le_refl _) hc.1 hcap hm hr,hc,hv,by omega,hb⟩
theorem zkJ {w:World} {v u:Value} {xs ys:List Int} (h:Sl w.heap.size w v xs) (h':Sl w.heap.size w u ys) (hge:val ys≤val xs) :
  Calls Tryz.prog 109 #[v,u] w fun e w'=>∃zs a c,e=.returned (.tuple #[.slice a zs.length c,.int .i64 0])∧Mine w.heap.size w' (.slice a zs.length c) zs∧zPA zs∧val zs=val xs-val ys∧zs.length≤xs.length∧Below w.heap.size w w' :=
 (zrH h h' hge).mono fun e w' ht=>by
  obtain ⟨zs,cap,r,h1,h2,h3,h4,h5,h6,h7,h8,h9⟩:=ht;have:=zWA xs;exact ⟨zs,_,cap,h1,zgE (Nat.le_refl _) h2.1 h5 h6 h7,h2,h3,by omega,h8⟩
theorem mul_m {w:World} {va vb:Value} {xs ys:List Int} (ha:Sl w.heap.size w va xs) (hb:Sl w.heap.size w vb ys) (hl:xs.length+ys.length≤35184372088832) :
  Calls Tryz.prog 91 #[va,vb] w (Mk w (val xs*val ys) (xs.length+ys.length)) :=
 (mul_any ha hb hl).mono fun e w' h=>by
  obtain ⟨zs,r,rfl,m1,m2,m3,m4⟩:=h;obtain ⟨a,cap,rfl⟩:=m1.form;exact ⟨zs,a,cap,rfl,m1,m2,m3,zxA m2 (by rw [m3];exact zBC ha.1 hb.1),m4⟩
theorem Mine.setLow {B b:Nat} {w:World} {v:Value} {zs:List Int} (h:Mine B w v zs) (hb:b<B) (i:Nat) (x:Value):Mine B (w.setCell ⟨b,i,none⟩ x) v zs:=by
 obtain ⟨hw,h | ⟨g,r,cap,h1,h2,h3,h4,h5,h6⟩⟩:=h
 ·exact ⟨hw,.inl h⟩
 ·refine ⟨hw,.inr ⟨g,r,cap,h1,h2,h3,h4,h5,?_⟩⟩
  have e:(w.setCell ⟨b,i,none⟩ x).heap[g]?=w.heap[g]?:=Below.heap_setCell w _ x g (fun e=>by simp at e;omega);exact e.trans h6
theorem Zm.setLow {B b:Nat} {w:World} {v:Value} {z:Int} {k:Nat} (h:Zm B w v z k) (hb:b<B) (i:Nat) (x:Value):Zm B (w.setCell ⟨b,i,none⟩ x) v z k:=by
 obtain ⟨n,xs,a,c,h1,h2,h3,h4,h5,h6⟩:=h;exact ⟨n,xs,a,c,h1,h2.setLow hb i x,h3,h4,h5,h6⟩
theorem zvC {w W:World} {B b:Nat} {x y:Value} {z:Int} {k:Nat} (h:Zm B W (.agg #[x,y]) z k) (hW:Below w.heap.size w W) (hb:w.heap.size≤b) (hB:b<B) :
  zmA w z k (.returned (.agg #[x,y])) ((W.setCell ⟨b,0,none⟩ x).setCell ⟨b,1,none⟩ y) :=
 ⟨_,rfl,((h.setLow hB 0 x).setLow hB 1 y).mono (by omega),(hW.setCell (p:=⟨b,0,none⟩) hb x).setCell (p:=⟨b,1,none⟩) hb y⟩
theorem zXA (w:World) (o1 o2:Obj):Below w.heap.size w ((w.alloc o1).alloc o2)∧((w.alloc o1).alloc o2).heap.size=w.heap.size+1+1:=⟨((Below.refl _ _).alloc (Nat.le_refl _) _).alloc (by simp) _,by simp⟩
theorem zkC (w:World) (o1 o2 o3:Obj):Below w.heap.size w (((w.alloc o1).alloc o2).alloc o3)∧(((w.alloc o1).alloc o2).alloc o3).heap.size=w.heap.size+1+1+1:=⟨(((Below.refl _ _).alloc (Nat.le_refl _) _).alloc (by simp) _).alloc (by simp;omega) _,by simp⟩
theorem zjC (w:World) (o1 o2 o3 o4:Obj):Below w.heap.size w ((((w.alloc o1).alloc o2).alloc o3).alloc o4)∧((((w.alloc o1).alloc o2).alloc o3).alloc o4).heap.size=w.heap.size+1+1+1+1:=⟨((((Below.refl _ _).alloc (Nat.le_refl _) _).alloc (by simp) _).alloc (by simp;omega) _).alloc (by simp;omega) _,by simp⟩
theorem zFA {w:World} {b:Nat} {x y:Value} (hb:w.heap.size=b):Duo (w.alloc (duo x y)) b x y:=by subst hb;exact Duo.new w x y
theorem zCA {w:World} {b:Nat} {x y:Value} (h:Duo w b x y) (o:Obj):Duo (w.alloc o) b x y:=h.later (Array.getElem?_eq_some_iff.1 (show w.heap[b]?=_ from h)).1 o
end Go.Proofs.YtjjpodnjljfheaaGreat
