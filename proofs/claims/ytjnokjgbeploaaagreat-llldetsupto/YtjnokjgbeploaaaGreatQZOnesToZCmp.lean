/-
 QZOnesToZCmp: ZOnes, ZCmp, joined.
-/
import Derived.Test.YtjnokjgbeploaaaGreatQMulAllToOnes

set_option maxRecDepth 100000
set_option maxHeartbeats 6400000
set_option linter.unusedVariables false
set_option linter.unusedSimpArgs false
namespace Go.Proofs.YtjnokjgbeploaaaGreat
open Go.RowKit
theorem zfG {w':World} {b b' i j:Nat} {u x:Value} (hne:b'≠b) (h:w'.cell? ⟨b,i,none⟩=some x):(w'.setCell ⟨b',j,none⟩ u).cell? ⟨b,i,none⟩=some x:=by
 rw [←h];unfold World.cell?;rw [Below.heap_setCell w' _ u b (fun e=>by simp at e;omega)]
theorem Mine.len {B:Nat} {w:World} {a:Option Addr} {l c:Nat} {zs:List Int} (h:Mine B w (.slice a l c) zs):zs.length≤35184372088832:=by
 obtain ⟨_,⟨_,h2⟩ | ⟨g,r,cap,_,h,_⟩⟩:=h
 ·subst h2;simp
 ·exact h
theorem zCD {w W0 w1 w2:World} {n:Bool} {zs:List Int} {az:Option Addr} {cz b k:Nat} {z:Int} (m:Mine W0.heap.size w1 (.slice az zs.length cz) zs) (q:zRA zs) (hv:iv n zs=z) (hl:zs.length≤k) (h12:Below w1.heap.size w1 w2) (h02:Below W0.heap.size W0 w2) (B0:Below w.heap.size w W0) (hb:w.heap.size≤b) (hB:b<W0.heap.size) :
  zWA w z k (.returned (.agg #[.bool (n && decide (0<zs.length)),.slice az zs.length cz])) ((w2.setCell ⟨b,0,none⟩ (.bool (n && decide (0<zs.length)))).setCell ⟨b,1,none⟩ (.slice az zs.length cz)):=by
 subst hv;exact zDD (ztI (m.below h12) q hl) (zBA B0 h02) hb hB
theorem zRG {xs ys:List Int} (n:Bool) (h:val xs=val ys):iv n xs=iv n ys:=by unfold iv;rw [h]
theorem zQC {w:World} {v:Value} {z:Int} {k:Nat} (h0:Zi w v z k) :
  Calls Tryz.prog 37 #[v] w (zWA w (z) (k)):=by
 obtain ⟨n,xs,a,c,rfl,s0,z0,k0⟩:=h0;obtain ⟨W0,hW0⟩:∃W0,(w.alloc (duo (.bool n) (.slice a xs.length c))).alloc zbox=W0:=⟨_,rfl⟩
 obtain ⟨b0,sz0⟩:=zjA w (duo (.bool n) (.slice a xs.length c)) zbox;rw [hW0] at b0 sz0;have p0:Duo W0 (w.heap.size) (.bool n) (.slice a xs.length c):=by rw [←hW0];exact zPA (zfA (by simp)) _
 have pR:Duo W0 (w.heap.size+1) (.bool false) (.slice none 0 0):=by rw [←hW0];exact zfA (by simp)
 have HKB:Hid (∀w',Below W0.heap.size W0 w'→w'.cell? ⟨w.heap.size,0,none⟩=some (.bool n)∧w'.cell? ⟨w.heap.size,1,none⟩=some (.slice a xs.length c)):=fun w' h=>⟨(p0.below h (by omega)).c0,(p0.below h (by omega)).c1⟩
 have HKR:Hid (∀w',Below W0.heap.size W0 w'→Duo w' (w.heap.size+1) (.bool false) (.slice none 0 0)):=fun w' h=>pR.below h (by omega)
 obtain ⟨i0,i1⟩:=HKB.out W0 (Below.refl _ _);have EW:=hid hW0;have B0:=hid b0;have HL:Hid (∀w',Below W0.heap.size W0 w'→Calls Tryz.prog 45 #[.slice a xs.length c] w' (Mk w' (val xs) xs.length)):=fun w' h=>zXE ((s0.now b0).now h)
 have HV:Hid (∀zs,val zs=val xs→iv n zs=z):=fun zs e=>by
  rw [zRG n e,z0]
 clear s0 p0 pR hW0 b0 z0;go_enter Tryz.func37,Tryz.ntmps37;go_wp2_with fail;rw [EW.out];go_region_held3 (fun w'=>w'.cell? ⟨w.heap.size,0,none⟩=some (.bool n)∧w'.cell? ⟨w.heap.size,1,none⟩=some (.slice a xs.length c))
  (first
   | ((try dsimp only);refine ⟨?_,?_⟩ <;> with_reducible (repeat (refine zfG (by omega) ?_)) <;> with_reducible assumption)
   | (refine HKB.out _ ?_;repeat (first | with_reducible exact HP2.out | with_reducible exact HP1.out | with_reducible exact Below.refl _ _ | with_reducible apply Below.drew)))
  (first
   | (go_at_call 45;refine (HL.out _ ?_).mono ?_;(repeat (first | exact Below.refl _ _ | apply Below.drew));rintro e w1 ⟨zs,az,cz,rfl,m1,q1,v1,l1,b1⟩;have HP1:=hid (zBA (w0:=W0) (by repeat (first | exact Below.refl _ _ | apply Below.drew)) b1);obtain ⟨c10,c11⟩:=HKB.out w1 HP1.out;have HM:=hid m1)
   | (go_at_call 44;refine (zmA _ n zs.length az cz HM.out.len).mono ?_;rintro e w2 ⟨rfl,b2⟩;have HB12:Hid (Below w1.heap.size w1 w2):=zBA (w0:=w1) (by repeat (first | exact Below.refl _ _ | apply Below.drew)) b2;have HP2:=hid (zBA HP1.out HB12.out);obtain ⟨c20,c21⟩:=HKB.out w2 HP2.out;have r0:=(HKR.out w2 HP2.out).c0;have r1:=(HKR.out w2 HP2.out).c1;have f0:=(HKR.out w2 HP2.out).fz 0;have f1:=(HKR.out w2 HP2.out).fz 1))
 all_goals go_wp2
 all_goals exact bodyPost_ret (znA Tryz.results37 ((HKR.out w2 HP2.out).set _ _) _ (by rfl)) rfl (zCD (W0:=W0) HM.out q1 (HV.out zs v1) (by omega) HB12.out HP2.out B0.out (by omega) (by omega))
theorem zkI {w:World} {v:Value} {z:Int} {k:Nat} (h0:Zi w v z k) :
  Calls Tryz.prog 67 #[v] w (zWA w (-z) (k)):=by
 obtain ⟨n,xs,a,c,rfl,s0,z0,k0⟩:=h0;obtain ⟨W0,hW0⟩:∃W0,(w.alloc (duo (.bool n) (.slice a xs.length c))).alloc zbox=W0:=⟨_,rfl⟩
 obtain ⟨b0,sz0⟩:=zjA w (duo (.bool n) (.slice a xs.length c)) zbox;rw [hW0] at b0 sz0;have p0:Duo W0 (w.heap.size) (.bool n) (.slice a xs.length c):=by rw [←hW0];exact zPA (zfA (by simp)) _
 have pR:Duo W0 (w.heap.size+1) (.bool false) (.slice none 0 0):=by rw [←hW0];exact zfA (by simp)
 have HKB:Hid (∀w',Below W0.heap.size W0 w'→w'.cell? ⟨w.heap.size,0,none⟩=some (.bool n)∧w'.cell? ⟨w.heap.size,1,none⟩=some (.slice a xs.length c)):=fun w' h=>⟨(p0.below h (by omega)).c0,(p0.below h (by omega)).c1⟩
 have HKR:Hid (∀w',Below W0.heap.size W0 w'→Duo w' (w.heap.size+1) (.bool false) (.slice none 0 0)):=fun w' h=>pR.below h (by omega)
 obtain ⟨i0,i1⟩:=HKB.out W0 (Below.refl _ _);have EW:=hid hW0;have B0:=hid b0;have HL:Hid (∀w',Below W0.heap.size W0 w'→Calls Tryz.prog 45 #[.slice a xs.length c] w' (Mk w' (val xs) xs.length)):=fun w' h=>zXE ((s0.now b0).now h)
 have HV:Hid (∀zs,val zs=val xs→iv (!n) zs = -z):=fun zs e=>by
  rw [zRG _ e,zVI,z0]
 clear s0 p0 pR hW0 b0 z0;go_enter Tryz.func67,Tryz.ntmps67;go_wp2_with fail;rw [EW.out];go_region_held3 (fun w'=>w'.cell? ⟨w.heap.size,0,none⟩=some (.bool n)∧w'.cell? ⟨w.heap.size,1,none⟩=some (.slice a xs.length c))
  (first
   | ((try dsimp only);refine ⟨?_,?_⟩ <;> with_reducible (repeat (refine zfG (by omega) ?_)) <;> with_reducible assumption)
   | (refine HKB.out _ ?_;repeat (first | with_reducible exact HP2.out | with_reducible exact HP1.out | with_reducible exact Below.refl _ _ | with_reducible apply Below.drew)))
  (first
   | (go_at_call 45;refine (HL.out _ ?_).mono ?_;(repeat (first | exact Below.refl _ _ | apply Below.drew));rintro e w1 ⟨zs,az,cz,rfl,m1,q1,v1,l1,b1⟩;have HP1:=hid (zBA (w0:=W0) (by repeat (first | exact Below.refl _ _ | apply Below.drew)) b1);obtain ⟨c10,c11⟩:=HKB.out w1 HP1.out;have HM:=hid m1)
   | (go_at_call 44;refine (zmA _ (!n) zs.length az cz HM.out.len).mono ?_;rintro e w2 ⟨rfl,b2⟩;have HB12:Hid (Below w1.heap.size w1 w2):=zBA (w0:=w1) (by repeat (first | exact Below.refl _ _ | apply Below.drew)) b2;have HP2:=hid (zBA HP1.out HB12.out);obtain ⟨c20,c21⟩:=HKB.out w2 HP2.out;have r0:=(HKR.out w2 HP2.out).c0;have r1:=(HKR.out w2 HP2.out).c1;have f0:=(HKR.out w2 HP2.out).fz 0;have f1:=(HKR.out w2 HP2.out).fz 1))
 all_goals go_wp2
 all_goals exact bodyPost_ret (znA Tryz.results67 ((HKR.out w2 HP2.out).set _ _) _ (by rfl)) rfl (zCD (W0:=W0) HM.out q1 (HV.out zs v1) (by omega) HB12.out HP2.out B0.out (by omega) (by omega))
theorem zJD {w:World} {v u:Value} {z y:Int} {k l:Nat} (h0:Zi w v z k) (h1:Zi w u y l) (hl:k+l≤35184372088832) :
  Calls Tryz.prog 59 #[v,u] w (zWA w (z*y) (k+l)):=by
 obtain ⟨n,xs,a,c,rfl,s0,z0,k0⟩:=h0;obtain ⟨m,ys,b,d,rfl,s1,z1,k1⟩:=h1;obtain ⟨W0,hW0⟩:∃W0,((w.alloc (duo (.bool n) (.slice a xs.length c))).alloc (duo (.bool m) (.slice b ys.length d))).alloc zbox=W0:=⟨_,rfl⟩
 obtain ⟨b0,sz0⟩:=znB w (duo (.bool n) (.slice a xs.length c)) (duo (.bool m) (.slice b ys.length d)) zbox;rw [hW0] at b0 sz0;have p0:Duo W0 (w.heap.size) (.bool n) (.slice a xs.length c):=by rw [←hW0];exact zPA (zPA (zfA (by simp)) _) _
 have p1:Duo W0 (w.heap.size+1) (.bool m) (.slice b ys.length d):=by rw [←hW0];exact zPA (zfA (by simp)) _
 have pR:Duo W0 (w.heap.size+1+1) (.bool false) (.slice none 0 0):=by rw [←hW0];exact zfA (by simp)
 have HKB:Hid (∀w',Below W0.heap.size W0 w'→w'.cell? ⟨w.heap.size,0,none⟩=some (.bool n)∧w'.cell? ⟨w.heap.size,1,none⟩=some (.slice a xs.length c)∧w'.cell? ⟨w.heap.size+1,0,none⟩=some (.bool m)∧w'.cell? ⟨w.heap.size+1,1,none⟩=some (.slice b ys.length d)):=fun w' h=>⟨(p0.below h (by omega)).c0,(p0.below h (by omega)).c1,(p1.below h (by omega)).c0,(p1.below h (by omega)).c1⟩
 have HKR:Hid (∀w',Below W0.heap.size W0 w'→Duo w' (w.heap.size+1+1) (.bool false) (.slice none 0 0)):=fun w' h=>pR.below h (by omega)
 obtain ⟨i0,i1,i2,i3⟩:=HKB.out W0 (Below.refl _ _);have EW:=hid hW0;have B0:=hid b0;have HL:Hid (∀w',Below W0.heap.size W0 w'→Calls Tryz.prog 75 #[.slice a xs.length c,.slice b ys.length d] w' (Mk w' (val xs*val ys) (xs.length+ys.length))):=fun w' h=>mul_m ((s0.now b0).now h) ((s1.now b0).now h) (by omega)
 have HV:Hid (∀zs,val zs=val xs*val ys→iv (n != m) zs=z*y):=fun zs e=>by
  rw [←z0,←z1];cases n <;> cases m <;> simp [iv,e,Int.mul_neg,Int.neg_mul]
 clear s0 p0 s1 p1 pR hW0 b0 z0 z1;go_enter Tryz.func59,Tryz.ntmps59;go_wp2_with fail;rw [EW.out];go_region_held3 (fun w'=>w'.cell? ⟨w.heap.size,0,none⟩=some (.bool n)∧w'.cell? ⟨w.heap.size,1,none⟩=some (.slice a xs.length c)∧w'.cell? ⟨w.heap.size+1,0,none⟩=some (.bool m)∧w'.cell? ⟨w.heap.size+1,1,none⟩=some (.slice b ys.length d))
  (first
   | ((try dsimp only);refine ⟨?_,?_,?_,?_⟩ <;> with_reducible (repeat (refine zfG (by omega) ?_)) <;> with_reducible assumption)
   | (refine HKB.out _ ?_;repeat (first | with_reducible exact HP2.out | with_reducible exact HP1.out | with_reducible exact Below.refl _ _ | with_reducible apply Below.drew)))
  (first
   | (go_at_call 75;refine (HL.out _ ?_).mono ?_;(repeat (first | exact Below.refl _ _ | apply Below.drew));rintro e w1 ⟨zs,az,cz,rfl,m1,q1,v1,l1,b1⟩;have HP1:=hid (zBA (w0:=W0) (by repeat (first | exact Below.refl _ _ | apply Below.drew)) b1);obtain ⟨c10,c11,c12,c13⟩:=HKB.out w1 HP1.out;have HM:=hid m1)
   | (go_at_call 44;refine (zmA _ (n != m) zs.length az cz HM.out.len).mono ?_;rintro e w2 ⟨rfl,b2⟩;have HB12:Hid (Below w1.heap.size w1 w2):=zBA (w0:=w1) (by repeat (first | exact Below.refl _ _ | apply Below.drew)) b2;have HP2:=hid (zBA HP1.out HB12.out);obtain ⟨c20,c21,c22,c23⟩:=HKB.out w2 HP2.out;have r0:=(HKR.out w2 HP2.out).c0;have r1:=(HKR.out w2 HP2.out).c1;have f0:=(HKR.out w2 HP2.out).fz 0;have f1:=(HKR.out w2 HP2.out).fz 1))
 all_goals go_wp2
 all_goals exact bodyPost_ret (znA Tryz.results59 ((HKR.out w2 HP2.out).set _ _) _ (by rfl)) rfl (zCD (W0:=W0) HM.out q1 (HV.out zs v1) (by omega) HB12.out HP2.out B0.out (by omega) (by omega))
theorem iv_sign {n:Bool} {xs:List Int} {z:Int} (hx:WF xs) (h:iv n xs=z):(vn xs=0∧z=0)∨(vn xs≠0∧n=true∧z<0)∨(vn xs≠0∧n=false∧0<z):=by
 have hv:=zeA hx;cases n
 ·rw [zHF] at h
  by_cases e:vn xs=0
  ·exact .inl ⟨e,by omega⟩
  ·exact .inr (.inr ⟨e,rfl,by omega⟩)
 ·rw [zIF] at h
  by_cases e:vn xs=0
  ·exact .inl ⟨e,by omega⟩
  ·exact .inr (.inl ⟨e,rfl,by omega⟩)
theorem zKE {v:Nat} (h:v≠0):bitLen v≠0:=by unfold bitLen;rw [if_neg h];omega
theorem zoB {w:World} {v:Value} {z:Int} {k:Nat} (h:Zi w v z k) :
  Calls Tryz.prog 14 #[v] w fun e w'=>e=.returned (.int .i64 (cmpI z 0))∧Below w.heap.size w w':=by
 obtain ⟨n,xs,a,c,rfl,s0,z0,k0⟩:=h;have b0:Below w.heap.size w (w.alloc (duo (.bool n) (.slice a xs.length c))):=(Below.refl _ _).alloc (Nat.le_refl _) _;have HB:=hid (zLE (s0.now b0));have B0:=hid b0;rcases iv_sign s0.1 z0 with ⟨e0,ez⟩ | ⟨e0,rfl,ez⟩ | ⟨e0,rfl,ez⟩
 ·subst ez
  rw [cmpI_self];have eb:bitLen (vn xs)=0:=by rw [e0];rfl
  rw [eb] at HB;clear s0 z0 b0 eb e0;go_enter Tryz.func14,Tryz.ntmps14;go_wp2_with fail;refine HB.out.mono ?_;rintro e w1 ⟨rfl,rfl⟩;go_wp2;go_ret;exact ⟨rfl,B0.out⟩
 ·rw [ziB ez]
  have eb:=zKE e0;obtain ⟨q,hq⟩:∃q,bitLen (vn xs)=q+1:=⟨bitLen (vn xs)-1,by omega⟩
  rw [hq] at HB;have hne:(((q+1:Nat):Int) == 0)=false:=by rw [beq_eq_false_iff_ne];omega
  clear s0 z0 b0 eb e0 hq ez;go_enter Tryz.func14,Tryz.ntmps14;go_wp2_with fail;refine HB.out.mono ?_;rintro e w1 ⟨rfl,rfl⟩;go_wp2;go_ret;exact ⟨rfl,B0.out⟩
 ·rw [zTB ez]
  have eb:=zKE e0;obtain ⟨q,hq⟩:∃q,bitLen (vn xs)=q+1:=⟨bitLen (vn xs)-1,by omega⟩
  rw [hq] at HB;have hne:(((q+1:Nat):Int) == 0)=false:=by rw [beq_eq_false_iff_ne];omega
  clear s0 z0 b0 eb e0 hq ez;go_enter Tryz.func14,Tryz.ntmps14;go_wp2_with fail;refine HB.out.mono ?_;rintro e w1 ⟨rfl,rfl⟩;go_wp2;go_ret;exact ⟨rfl,B0.out⟩
theorem zkD {n:Bool} {xs:List Int} {z:Int} (hx:WF xs) (h:iv n xs=z):val xs=(z.natAbs:Int):=by
 have:=zHA hx;cases n
 ·rw [zHF] at h;omega
 ·rw [zIF] at h;omega
theorem zcG {w:World} {v u:Value} {z y:Int} {k l:Nat} (h:Zi w v z k) (h':Zi w u y l) :
  Calls Tryz.prog 90 #[v,u] w fun e w'=>e=.returned (.int .i64 (cmpI (z.natAbs:Int) (y.natAbs:Int)))∧Below w.heap.size w w':=by
 obtain ⟨n,xs,a,c,rfl,s0,z0,k0⟩:=h;obtain ⟨m,ys,b,d,rfl,s1,z1,k1⟩:=h';have b0:=(zjA w (duo (.bool n) (.slice a xs.length c)) (duo (.bool m) (.slice b ys.length d))).1;have HC:=hid (zkF (s0.now b0) (s1.now b0));rw [zkD s0.1 z0,zkD s1.1 z1] at HC;have B0:=hid b0;clear s0 s1 z0 z1 b0;generalize cmpI (z.natAbs:Int) (y.natAbs:Int)=C at *;go_enter Tryz.func90,Tryz.ntmps90;go_wp2_with fail;refine HC.out.mono ?_;rintro e w1 ⟨rfl,b1⟩;have B1:=hid (zBA B0.out b1);clear b1 HC;go_wp2;go_ret;exact ⟨rfl,B1.out⟩
end Go.Proofs.YtjnokjgbeploaaaGreat
