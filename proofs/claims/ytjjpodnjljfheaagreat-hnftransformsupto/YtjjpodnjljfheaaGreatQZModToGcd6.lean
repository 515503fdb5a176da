/-
 QZModToGcd6: ZMod, ZDivs, Less6, ZMet, MWord, GcdAll, ExtPure, Gcd6, joined.
-/
import Derived.Test.YtjjpodnjljfheaaGreatQZEuclid
import Derived.Test.YtjjpodnjljfheaaGreatQZStoreToLst9
import Derived.Test.YtjjpodnjljfheaaGreatQFil9ToRowsOf9
import Derived.Deep.Cut
import Derived.Test.YtjjpodnjljfheaaGreatQMulToOnes
import Derived.Test.YtjjpodnjljfheaaGreatQDivMod
import Derived.Test.YtjjpodnjljfheaaGreatQProdToByWord
import Derived.Deep.RegionHeld3
import Derived.Deep.LoopGhost

set_option maxRecDepth 100000
set_option maxHeartbeats 6400000
set_option linter.unusedVariables false
set_option linter.unusedSimpArgs false
namespace Go.Proofs.YtjjpodnjljfheaaGreat
open Go.RowKit
theorem zNC {z y:Int} (hy:y≠0):(z.tmod y<0→z.tmod y+(y.natAbs:Int)=z % y)∧(¬z.tmod y<0→z.tmod y=z % y):=by
 have h1:=Int.tmod_eq_emod (a:=z) (b:=y);have h2:=Int.emod_nonneg z hy;have h3:z % y<(y.natAbs:Int):=by
  by_cases h:0<y
  ·have:=Int.emod_lt_of_pos z h
   omega
  ·have:=Int.emod_lt_of_pos z (b := -y) (by omega)
   rw [Int.emod_neg] at this;omega
 split at h1 <;> constructor <;> intro h <;> omega
theorem zXF (w:World) (o1:Obj):Below w.heap.size w (w.alloc o1)∧(w.alloc o1).heap.size=w.heap.size+1:=⟨(Below.refl _ _).alloc (Nat.le_refl _) _,by simp⟩
def fdv (z y:Int):Int:=if cmpI (z.tmod y) 0*cmpI y 0<0 then z.tdiv y-1 else z.tdiv y
def fmd (z y:Int):Int:=if cmpI (z.tmod y) 0*cmpI y 0<0 then z.tmod y+y else z.tmod y
def edv (z y:Int):Int:=if cmpI (z.tmod y) 0<0 then z.tdiv y-cmpI y 0 else z.tdiv y
theorem floor_z {w:World} {v u:Value} {z y:Int} {k l:Nat} (h0:Zi w v z k) (h1:Zi w u y l) (hy:y≠0) (hk:k≤1099511627776) (hl:l≤1099511627776) :
  Calls Tryz.prog 121 #[v,u] w (zUB 0 w (fdv z y) (fmd z y) (max k 1+1) (max k l+1)):=by
 unfold fdv fmd
 by_cases hs:cmpI (z.tmod y) 0*cmpI y 0<0
 ·rw [if_pos hs,if_pos hs]
  exact floor_neg h0 h1 hy hk hl hs
 ·rw [if_neg hs,if_neg hs]
  exact (floor_pos h0 h1 hy hk hl hs).mono fun e w' ⟨rq,rr,q1,q2,q3,q4⟩=>⟨rq,rr,q1,q2.more (by omega),q3.more (by omega),q4⟩
theorem euclid_z {w:World} {v u:Value} {z y:Int} {k l:Nat} (h0:Zi w v z k) (h1:Zi w u y l) (hy:y≠0) (hk:k≤1099511627776) (hl:l≤1099511627776) :
  Calls Tryz.prog 133 #[v,u] w (zUB 0 w (edv z y) (z % y) (max k 1+1) (max k l+1)):=by
 unfold edv
 by_cases hs:z.tmod y<0
 ·have hc:=zSC hs
  rw [if_pos hc,←(zNC hy).1 hs];exact euclid_neg h0 h1 hy hk hl hc
 ·have hc:=zIB (a:=z.tmod y) (b:=0) (by omega)
  rw [if_neg hc,←(zNC hy).2 hs];exact (euclid_pos h0 h1 hy hk hl hc).mono fun e w' ⟨rq,rr,q1,q2,q3,q4⟩=>⟨rq,rr,q1,q2.more (by omega),q3.more (by omega),q4⟩
theorem zpE {w:World} {v u:Value} {z y:Int} {k l:Nat} (h0:Zi w v z k) (h1:Zi w u y l) (hy:y≠0) (hk:k≤1099511627776) (hl:l≤1099511627776) (hr:z.tmod y=0):Calls Tryz.prog 114 #[v,u] w (zuF 0 w (z.tdiv y) k) :=
 (zMI h0 h1 hy hk hl).mono fun e w' h=>by
  rcases h with ⟨_,h⟩ | ⟨h,_⟩
  ·exact h
  ·exact absurd hr h
theorem exact_no {w:World} {v u:Value} {z y:Int} {k l:Nat} (h0:Zi w v z k) (h1:Zi w u y l) (hy:y≠0) (hk:k≤1099511627776) (hl:l≤1099511627776) (hr:z.tmod y≠0):Calls Tryz.prog 114 #[v,u] w (zuF 8 w 0 k) :=
 (zMI h0 h1 hy hk hl).mono fun e w' h=>by
  rcases h with ⟨h,_⟩ | ⟨_,h1,h2⟩
  ·exact absurd h hr
  ·exact ⟨_,h1,ziH _ _ _,h2⟩
theorem zEF {z y:Int} (hy:y≠0):((z.tmod y).natAbs:Int)<(y.natAbs:Int)∧(0≤z→0≤z.tmod y)∧(z≤0→z.tmod y≤0)∧z.tdiv y*y+z.tmod y=z:=by
 have h0:z.tdiv y*y+z.tmod y=z:=by rw [Int.mul_comm];exact Int.mul_tdiv_add_tmod z y
 have h1:=Int.tmod_eq_emod (a:=z) (b:=y);have h2:=Int.emod_nonneg z hy;have h3:z % y<(y.natAbs:Int):=by
  by_cases h:0<y
  ·have:=Int.emod_lt_of_pos z h
   omega
  ·have:=Int.emod_lt_of_pos z (b := -y) (by omega)
   rw [Int.emod_neg] at this;omega
 have h4:0≤z→0≤z.tmod y:=fun h=>by
  rw [if_pos (.inl h)] at h1;omega
 have h5:z≤0→z.tmod y≤0:=fun h=>by
  have h6:=Int.tmod_eq_emod (a := -z) (b:=y);rw [if_pos (.inl (by omega)),Int.neg_tmod] at h6;have h7:=Int.emod_nonneg (-z) hy;omega
 refine ⟨?_,h4,h5,h0⟩
 by_cases h:0≤z
 ·rw [if_pos (.inl h)] at h1
  omega
 ·have h6:=Int.tmod_eq_emod (a := -z) (b:=y)
  rw [if_pos (.inl (by omega)),Int.neg_tmod] at h6;have h7:=Int.emod_nonneg (-z) hy;have h8:(-z) % y<(y.natAbs:Int):=by
   by_cases h:0<y
   ·have:=Int.emod_lt_of_pos (-z) h
    omega
   ·have:=Int.emod_lt_of_pos (-z) (b := -y) (by omega)
    rw [Int.emod_neg] at this;omega
  omega
theorem sign_cases (x:Int):(x<0∧cmpI x 0 = -1)∨(x=0∧cmpI x 0=0)∨(0<x∧cmpI x 0=1):=cmp_cases x 0
theorem zvH (B:Int):cmpI B 0*B=(B.natAbs:Int):=by
 rcases sign_cases B with ⟨b1,b2⟩ | ⟨b1,b2⟩ | ⟨b1,b2⟩ <;> rw [b2] <;> omega
theorem zeE {x0 x1 y0 y1:Value} (h:#[x0,x1]=#[y0,y1]):x0=y0∧x1=y1:=by simpa using h
theorem Zi.comp {w:World} {v0 v1:Value} {z:Int} {k:Nat} (h:Zi w (.agg #[v0,v1]) z k):∃n,∃xs:List Int,∃a c,v0=.bool n∧v1=.slice a xs.length c:=by
 obtain ⟨n,xs,a,c,e,_⟩:=h;obtain ⟨e1,e2⟩:=zeE (show #[v0,v1]=_ by simpa using e);exact ⟨n,xs,a,c,e1,e2⟩
theorem zHJ {w:World} {b:Nat} {T:TypeId} {L:List Value} (hb:w.heap.size=b):Cel (w.alloc (.cells L.toArray T)) b T L:=by subst hb;exact Cel.new w T L
theorem zME {w:World} {b:Nat} {T:TypeId} {L:List Value} (h:Cel w b T L) (o:Obj):Cel (w.alloc o) b T L:=h.step ((Below.refl _ _).alloc (Nat.le_refl _) o)
theorem Row.cel {w:World} {g b i:Nat} {L:List Value} {T:TypeId} {M:List Value} {u:Value} (h:Row w g L) (d:Cel w b T M) (hT:T≠49):Row (w.setCell ⟨b,i,none⟩ u) g L:=by
 have hne:g≠b:=fun e=>by
  subst e;have:=(show w.heap[g]?=_ from h).symm.trans (show w.heap[g]?=_ from d);simp at this;exact hT this.2.symm
 exact (Below.heap_setCell w _ u g (fun e=>hne (by simpa using e))).trans h
theorem Mine.cel {B:Nat} {w:World} {v:Value} {zs:List Int} (h:Mine B w v zs) {b i:Nat} {T:TypeId} {M:List Value} {u:Value} (d:Cel w b T M) (hT:T≠49):Mine B (w.setCell ⟨b,i,none⟩ u) v zs:=by
 obtain ⟨hw,h | ⟨g,r,cap,h1,h2,h3,h4,h5,h6⟩⟩:=h
 ·exact ⟨hw,.inl h⟩
 ·exact ⟨hw,.inr ⟨g,r,cap,h1,h2,h3,h4,h5,h6.cel d hT⟩⟩
theorem Zm.cel {B:Nat} {w:World} {v:Value} {z:Int} {k:Nat} (h:Zm B w v z k) {b i:Nat} {T:TypeId} {M:List Value} {u:Value} (d:Cel w b T M) (hT:T≠49):Zm B (w.setCell ⟨b,i,none⟩ u) v z k:=by
 obtain ⟨n,xs,a,c,h1,h2,h3⟩:=h;exact ⟨n,xs,a,c,h1,h2.cel d hT,h3⟩
theorem Zm.put4z {B:Nat} {w:World} {v:Value} {z:Int} {k:Nat} (h:Zm B w v z k) {b:Nat} {x0 x1 x2 x3:Value} (d:Cel w b 141 [x0,x1,x2,x3]) (y0 y1 y2 y3:Value):Zm B (put4 w b y0 y1 y2 y3) v z k:=by
 have d1:=d.set 0 y0;have d2:=d1.set 1 y1;have d3:=d2.set 2 y2;exact (((h.cel d (by decide)).cel d1 (by decide)).cel d2 (by decide)).cel d3 (by decide)
theorem rowback {f:Func} {s:Nat} (hr:f.results=#[ResultVar.cell s 141]) {W:World} {b:Nat} {x0 x1 x2 x3:Value} (h:Cel W b 141 [x0,x1,x2,x3]) (tmps:Array Value) (ht:tmps[s]?=some (.pointer (some ⟨b,0,none⟩))) :
  (results f tmps).run Tryz.prog W=.ok (.agg #[x0,x1,x2,x3]) W:=by
 simp [results,hr,go_sem,ht,h.at (i:=0) rfl,h.at (i:=1) rfl,h.at (i:=2) rfl,h.at (i:=3) rfl]
theorem less_z {w:World} {a0 a1 b0 b1 c0 c1 d0 d1 vt:Value} {A B T C D:Int} {k:Nat} (ha:Zi w (.agg #[a0,a1]) A k) (hb:Zi w (.agg #[b0,b1]) B k) (ht:Zi w vt T k) (hc:Zi w (.agg #[c0,c1]) C k) (hd:Zi w (.agg #[d0,d1]) D k) (hk:k≤68719476736) :
  Calls Tryz.prog 132 #[.agg #[a0,a1,b0,b1],vt,.agg #[c0,c1,d0,d1]] w fun e w'=>∃r0 r1 r2 r3,e=.returned (.agg #[r0,r1,r2,r3])∧Zm w.heap.size w' (.agg #[r0,r1]) (A-T*C) (k+k+1)∧Zm w.heap.size w' (.agg #[r2,r3]) (B-T*D) (k+k+1)∧Below w.heap.size w w':=by
 have za0:=ha;obtain ⟨na,xa,ada,ca,ev,-,-,-⟩:=ha;simp only [Value.agg.injEq] at ev;obtain ⟨rfl,rfl⟩:=zeE ev;have zb0:=hb;obtain ⟨nb,xb,adb,cb,ev,-,-,-⟩:=hb;simp only [Value.agg.injEq] at ev;obtain ⟨rfl,rfl⟩:=zeE ev;have zt0:=ht;obtain ⟨nt,xt,adt,ct,rfl,-,-,-⟩:=ht;have zc0:=hc;obtain ⟨nc,xc,adc,cc,ev,-,-,-⟩:=hc;simp only [Value.agg.injEq] at ev;obtain ⟨rfl,rfl⟩:=zeE ev;have zd0:=hd;obtain ⟨nd,xd,add,cd,ev,-,-,-⟩:=hd;simp only [Value.agg.injEq] at ev;obtain ⟨rfl,rfl⟩:=zeE ev;obtain ⟨W0,hW⟩:∃W0,(((w.alloc (.cells #[(.bool na),(.slice ada xa.length ca),(.bool nb),(.slice adb xb.length cb)] 141)).alloc (duo (.bool nt) (.slice adt xt.length ct))).alloc (.cells #[(.bool nc),(.slice adc xc.length cc),(.bool nd),(.slice add xd.length cd)] 141)).alloc (.cells #[(.bool false),(.slice none 0 0),(.bool false),(.slice none 0 0)] 141)=W0:=⟨_,rfl⟩
 obtain ⟨b0,sz0⟩:=zjC w (.cells #[(.bool na),(.slice ada xa.length ca),(.bool nb),(.slice adb xb.length cb)] 141) (duo (.bool nt) (.slice adt xt.length ct)) (.cells #[(.bool nc),(.slice adc xc.length cc),(.bool nd),(.slice add xd.length cd)] 141) (.cells #[(.bool false),(.slice none 0 0),(.bool false),(.slice none 0 0)] 141);rw [hW] at b0 sz0;have e1:(w.alloc (.cells #[(.bool na),(.slice ada xa.length ca),(.bool nb),(.slice adb xb.length cb)] 141)).heap.size=w.heap.size+1:=by simp
 have e2:((w.alloc (.cells #[(.bool na),(.slice ada xa.length ca),(.bool nb),(.slice adb xb.length cb)] 141)).alloc (duo (.bool nt) (.slice adt xt.length ct))).heap.size=w.heap.size+1+1:=by simp
 have e3:(((w.alloc (.cells #[(.bool na),(.slice ada xa.length ca),(.bool nb),(.slice adb xb.length cb)] 141)).alloc (duo (.bool nt) (.slice adt xt.length ct))).alloc (.cells #[(.bool nc),(.slice adc xc.length cc),(.bool nd),(.slice add xd.length cd)] 141)).heap.size=w.heap.size+1+1+1:=by simp
 have PR:Hid (Cel W0 (w.heap.size) 141 [(.bool na),(.slice ada xa.length ca),(.bool nb),(.slice adb xb.length cb)]):=by unfold Hid;rw [←hW];exact zME (zME (zME (Cel.new w _ _) _) _) _
 have PT:Hid (Duo W0 (w.heap.size+1) (.bool nt) (.slice adt xt.length ct)):=by unfold Hid;rw [←hW];exact zCA (zCA (zFA e1) _) _
 have PS:Hid (Cel W0 (w.heap.size+1+1) 141 [(.bool nc),(.slice adc xc.length cc),(.bool nd),(.slice add xd.length cd)]):=by unfold Hid;rw [←hW];exact zME (zHJ e2) _
 have PQ:Hid (Cel W0 (w.heap.size+1+1+1) 141 [(.bool false),(.slice none 0 0),(.bool false),(.slice none 0 0)]):=by unfold Hid;rw [←hW];exact zHJ e3
 have Za:=hid (za0.now b0);clear za0;have Zb:=hid (zb0.now b0);clear zb0;have Zt:=hid (zt0.now b0);clear zt0;have Zc:=hid (zc0.now b0);clear zc0;have Zd:=hid (zd0.now b0);clear zd0;clear e1 e2 e3;have G:=hid b0;clear b0;have EW:=hid hW;clear hW;go_enter Tryz.func132,Tryz.ntmps132
 skip
 go_wp2_with fail;rw [EW.out];clear EW;refine zEA (fun w'=>w'.cell? ⟨w.heap.size,0,none⟩=some (.bool na)∧w'.cell? ⟨w.heap.size,1,none⟩=some (.slice ada xa.length ca)∧w'.cell? ⟨w.heap.size,2,none⟩=some (.bool nb)∧w'.cell? ⟨w.heap.size,3,none⟩=some (.slice adb xb.length cb)∧w'.cell? ⟨w.heap.size+1,0,none⟩=some (.bool nt)∧w'.cell? ⟨w.heap.size+1,1,none⟩=some (.slice adt xt.length ct)∧w'.cell? ⟨w.heap.size+1+1,0,none⟩=some (.bool nc)∧w'.cell? ⟨w.heap.size+1+1,1,none⟩=some (.slice adc xc.length cc)∧w'.cell? ⟨w.heap.size+1+1,2,none⟩=some (.bool nd)∧w'.cell? ⟨w.heap.size+1+1,3,none⟩=some (.slice add xd.length cd)) 15 (by kernel_rfl) ?_;obtain ⟨D1,hD⟩:∃D1,W0.drew=D1:=⟨_,rfl⟩
 have b:Below W0.heap.size W0 D1:=by rw [←hD];exact (Below.refl _ _).drew
 rw [hD];clear hD;replace Za:=hid (Za.out.now b);replace Zb:=hid (Zb.out.now b);replace Zt:=hid (Zt.out.now b);replace Zc:=hid (Zc.out.now b);replace Zd:=hid (Zd.out.now b);replace PR:=hid (PR.out.step b);replace PT:=hid (PT.out.step b);replace PS:=hid (PS.out.step b);replace PQ:=hid (PQ.out.step b);replace G:=hid (below_step G.out b);have lz2:=(show Below _ _ _ from b).size;clear b;refine zBA (i:=0) (oi:=⟨some 7,.indexAddr 141 (.tmp 3) (.const (.int .i64 0)),0, "bezout.go:57",#[],none⟩) (v:=(.pointer (some ⟨w.heap.size,0,none⟩))) rfl (by kernel_rfl) (fun _ _ _ h=>h) (Or.inl ⟨by rfl,?_⟩) ⟨(PR.out.at (i:=0) rfl),(PR.out.at (i:=1) rfl),(PR.out.at (i:=2) rfl),(PR.out.at (i:=3) rfl),PT.out.c0,PT.out.c1,(PS.out.at (i:=0) rfl),(PS.out.at (i:=1) rfl),(PS.out.at (i:=2) rfl),(PS.out.at (i:=3) rfl)⟩ ?_
 ·intro w hSw;(try dsimp only at hSw);go_simp
 simp only [Act.put,sIb,sC0,sC1];refine zBA (i:=1) (oi:=⟨some 8,.load 47 (.tmp 7),47, "bezout.go:57",#[⟨0,.data⟩],none⟩) (v:=(.agg #[(.bool na),(.slice ada xa.length ca)])) rfl (by kernel_rfl) (fun _ _ _ h=>h) (Or.inl ⟨by rfl,?_⟩) ⟨(PR.out.at (i:=0) rfl),(PR.out.at (i:=1) rfl),(PR.out.at (i:=2) rfl),(PR.out.at (i:=3) rfl),PT.out.c0,PT.out.c1,(PS.out.at (i:=0) rfl),(PS.out.at (i:=1) rfl),(PS.out.at (i:=2) rfl),(PS.out.at (i:=3) rfl)⟩ ?_
 ·intro w hSw;(try dsimp only at hSw);go_simp
 simp only [Act.put,sIb,sC0,sC1];refine zBA (i:=2) (oi:=⟨some 9,.load 47 (.tmp 4),47, "bezout.go:57",#[],none⟩) (v:=(.agg #[(.bool nt),(.slice adt xt.length ct)])) rfl (by kernel_rfl) (fun _ _ _ h=>h) (Or.inl ⟨by rfl,?_⟩) ⟨(PR.out.at (i:=0) rfl),(PR.out.at (i:=1) rfl),(PR.out.at (i:=2) rfl),(PR.out.at (i:=3) rfl),PT.out.c0,PT.out.c1,(PS.out.at (i:=0) rfl),(PS.out.at (i:=1) rfl),(PS.out.at (i:=2) rfl),(PS.out.at (i:=3) rfl)⟩ ?_
 ·intro w hSw;(try dsimp only at hSw);go_simp
 simp only [Act.put,sIb,sC0,sC1];refine zBA (i:=3) (oi:=⟨some 10,.indexAddr 141 (.tmp 5) (.const (.int .i64 0)),0, "bezout.go:57",#[],none⟩) (v:=(.pointer (some ⟨w.heap.size+1+1,0,none⟩))) rfl (by kernel_rfl) (fun _ _ _ h=>h) (Or.inl ⟨by rfl,?_⟩) ⟨(PR.out.at (i:=0) rfl),(PR.out.at (i:=1) rfl),(PR.out.at (i:=2) rfl),(PR.out.at (i:=3) rfl),PT.out.c0,PT.out.c1,(PS.out.at (i:=0) rfl),(PS.out.at (i:=1) rfl),(PS.out.at (i:=2) rfl),(PS.out.at (i:=3) rfl)⟩ ?_
 ·intro w hSw;(try dsimp only at hSw);go_simp
 simp only [Act.put,sIb,sC0,sC1];refine zBA (i:=4) (oi:=⟨some 11,.load 47 (.tmp 10),47, "bezout.go:57",#[⟨3,.data⟩],none⟩) (v:=(.agg #[(.bool nc),(.slice adc xc.length cc)])) rfl (by kernel_rfl) (fun _ _ _ h=>h) (Or.inl ⟨by rfl,?_⟩) ⟨(PR.out.at (i:=0) rfl),(PR.out.at (i:=1) rfl),(PR.out.at (i:=2) rfl),(PR.out.at (i:=3) rfl),PT.out.c0,PT.out.c1,(PS.out.at (i:=0) rfl),(PS.out.at (i:=1) rfl),(PS.out.at (i:=2) rfl),(PS.out.at (i:=3) rfl)⟩ ?_
 ·intro w hSw;(try dsimp only at hSw);go_simp
 simp only [Act.put,sIb,sC0,sC1];refine zBA (i:=7) (oi:=⟨some 14,.indexAddr 141 (.tmp 3) (.const (.int .i64 1)),0, "bezout.go:57",#[],none⟩) (v:=(.pointer (some ⟨w.heap.size,2,none⟩))) rfl (by kernel_rfl) (fun _ _ _ h=>h) (Or.inl ⟨by rfl,?_⟩) ⟨(PR.out.at (i:=0) rfl),(PR.out.at (i:=1) rfl),(PR.out.at (i:=2) rfl),(PR.out.at (i:=3) rfl),PT.out.c0,PT.out.c1,(PS.out.at (i:=0) rfl),(PS.out.at (i:=1) rfl),(PS.out.at (i:=2) rfl),(PS.out.at (i:=3) rfl)⟩ ?_
 ·intro w hSw;(try dsimp only at hSw);go_simp
 simp only [Act.put,sIb,sC0,sC1];refine zBA (i:=8) (oi:=⟨some 15,.load 47 (.tmp 14),47, "bezout.go:57",#[⟨7,.data⟩],none⟩) (v:=(.agg #[(.bool nb),(.slice adb xb.length cb)])) rfl (by kernel_rfl) (fun _ _ _ h=>h) (Or.inl ⟨by rfl,?_⟩) ⟨(PR.out.at (i:=0) rfl),(PR.out.at (i:=1) rfl),(PR.out.at (i:=2) rfl),(PR.out.at (i:=3) rfl),PT.out.c0,PT.out.c1,(PS.out.at (i:=0) rfl),(PS.out.at (i:=1) rfl),(PS.out.at (i:=2) rfl),(PS.out.at (i:=3) rfl)⟩ ?_
 ·intro w hSw;(try dsimp only at hSw);go_simp
 simp only [Act.put,sIb,sC0,sC1];refine zBA (i:=9) (oi:=⟨some 16,.load 47 (.tmp 4),47, "bezout.go:57",#[],none⟩) (v:=(.agg #[(.bool nt),(.slice adt xt.length ct)])) rfl (by kernel_rfl) (fun _ _ _ h=>h) (Or.inl ⟨by rfl,?_⟩) ⟨(PR.out.at (i:=0) rfl),(PR.out.at (i:=1) rfl),(PR.out.at (i:=2) rfl),(PR.out.at (i:=3) rfl),PT.out.c0,PT.out.c1,(PS.out.at (i:=0) rfl),(PS.out.at (i:=1) rfl),(PS.out.at (i:=2) rfl),(PS.out.at (i:=3) rfl)⟩ ?_
 ·intro w hSw;(try dsimp only at hSw);go_simp
 simp only [Act.put,sIb,sC0,sC1];refine zBA (i:=10) (oi:=⟨some 17,.indexAddr 141 (.tmp 5) (.const (.int .i64 1)),0, "bezout.go:57",#[],none⟩) (v:=(.pointer (some ⟨w.heap.size+1+1,2,none⟩))) rfl (by kernel_rfl) (fun _ _ _ h=>h) (Or.inl ⟨by rfl,?_⟩) ⟨(PR.out.at (i:=0) rfl),(PR.out.at (i:=1) rfl),(PR.out.at (i:=2) rfl),(PR.out.at (i:=3) rfl),PT.out.c0,PT.out.c1,(PS.out.at (i:=0) rfl),(PS.out.at (i:=1) rfl),(PS.out.at (i:=2) rfl),(PS.out.at (i:=3) rfl)⟩ ?_
 ·intro w hSw;(try dsimp only at hSw);go_simp
 simp only [Act.put,sIb,sC0,sC1];refine zBA (i:=11) (oi:=⟨some 18,.load 47 (.tmp 17),47, "bezout.go:57",#[⟨10,.data⟩],none⟩) (v:=(.agg #[(.bool nd),(.slice add xd.length cd)])) rfl (by kernel_rfl) (fun _ _ _ h=>h) (Or.inl ⟨by rfl,?_⟩) ⟨(PR.out.at (i:=0) rfl),(PR.out.at (i:=1) rfl),(PR.out.at (i:=2) rfl),(PR.out.at (i:=3) rfl),PT.out.c0,PT.out.c1,(PS.out.at (i:=0) rfl),(PS.out.at (i:=1) rfl),(PS.out.at (i:=2) rfl),(PS.out.at (i:=3) rfl)⟩ ?_
 ·intro w hSw;(try dsimp only at hSw);go_simp
 simp only [Act.put,sIb,sC0,sC1];refine zAA (i:=5) (o:=⟨some 12,.call { callee:=.value (.func 72),args:=#[.tmp 9,.tmp 11],argTypes:=#[47,47] },47, "bezout.go:57",#[⟨2,.data⟩,⟨4,.data⟩],none⟩) (by kernel_rfl) rfl (fun K hK=>?_);go_simp;go_at_call 72;refine (zeF Zt.out Zc.out (by omega)).mono ?_;rintro e w3 ⟨r0,rfl,m0,b⟩;obtain ⟨nu,xu,adu,qu,rfl,-,-,-,-,-⟩:=id m0;replace Za:=hid (Za.out.now b);replace Zb:=hid (Zb.out.now b);replace Zt:=hid (Zt.out.now b);replace Zc:=hid (Zc.out.now b);replace Zd:=hid (Zd.out.now b);replace PR:=hid (PR.out.step b);replace PT:=hid (PT.out.step b);replace PS:=hid (PS.out.step b);replace PQ:=hid (PQ.out.step b);replace G:=hid (below_step G.out b);have lz4:=(show Below _ _ _ from b).size;have Zu:=hid m0;clear b m0;refine hK.out _ _ (fun _=>⟨(PR.out.at (i:=0) rfl),(PR.out.at (i:=1) rfl),(PR.out.at (i:=2) rfl),(PR.out.at (i:=3) rfl),PT.out.c0,PT.out.c1,(PS.out.at (i:=0) rfl),(PS.out.at (i:=1) rfl),(PS.out.at (i:=2) rfl),(PS.out.at (i:=3) rfl)⟩) ?_;clear hK;refine zAA (i:=6) (o:=⟨some 13,.call { callee:=.value (.func 71),args:=#[.tmp 8,.tmp 12],argTypes:=#[47,47] },47, "bezout.go:57",#[⟨1,.data⟩,⟨5,.data⟩,⟨5,.chain⟩],none⟩) (by kernel_rfl) rfl (fun K hK=>?_);go_simp;go_at_call 71;refine (zcH Za.out Zu.out.zi (by omega) (by omega)).mono ?_;rintro e w5 ⟨r0,rfl,m0,b⟩;obtain ⟨ng,xg,adg,qg,rfl,-,-,-,-,-⟩:=id m0;replace Za:=hid (Za.out.now b);replace Zb:=hid (Zb.out.now b);replace Zt:=hid (Zt.out.now b);replace Zc:=hid (Zc.out.now b);replace Zd:=hid (Zd.out.now b);replace Zu:=hid (Zu.out.now b);replace PR:=hid (PR.out.step b);replace PT:=hid (PT.out.step b);replace PS:=hid (PS.out.step b);replace PQ:=hid (PQ.out.step b);replace G:=hid (below_step G.out b);have lz6:=(show Below _ _ _ from b).size;have Zg:=hid m0;clear b m0;refine hK.out _ _ (fun _=>⟨(PR.out.at (i:=0) rfl),(PR.out.at (i:=1) rfl),(PR.out.at (i:=2) rfl),(PR.out.at (i:=3) rfl),PT.out.c0,PT.out.c1,(PS.out.at (i:=0) rfl),(PS.out.at (i:=1) rfl),(PS.out.at (i:=2) rfl),(PS.out.at (i:=3) rfl)⟩) ?_;clear hK;refine zAA (i:=12) (o:=⟨some 19,.call { callee:=.value (.func 72),args:=#[.tmp 16,.tmp 18],argTypes:=#[47,47] },47, "bezout.go:57",#[⟨9,.data⟩,⟨11,.data⟩,⟨6,.chain⟩],none⟩) (by kernel_rfl) rfl (fun K hK=>?_);go_simp;go_at_call 72;refine (zeF Zt.out Zd.out (by omega)).mono ?_;rintro e w7 ⟨r0,rfl,m0,b⟩;obtain ⟨nv,xv,adv,qv,rfl,-,-,-,-,-⟩:=id m0;replace Za:=hid (Za.out.now b);replace Zb:=hid (Zb.out.now b);replace Zt:=hid (Zt.out.now b);replace Zc:=hid (Zc.out.now b);replace Zd:=hid (Zd.out.now b);replace Zu:=hid (Zu.out.now b);replace Zg:=hid (Zg.out.now b);replace PR:=hid (PR.out.step b);replace PT:=hid (PT.out.step b);replace PS:=hid (PS.out.step b);replace PQ:=hid (PQ.out.step b);replace G:=hid (below_step G.out b);have lz8:=(show Below _ _ _ from b).size;have Zv:=hid m0;clear b m0;refine hK.out _ _ (fun _=>⟨(PR.out.at (i:=0) rfl),(PR.out.at (i:=1) rfl),(PR.out.at (i:=2) rfl),(PR.out.at (i:=3) rfl),PT.out.c0,PT.out.c1,(PS.out.at (i:=0) rfl),(PS.out.at (i:=1) rfl),(PS.out.at (i:=2) rfl),(PS.out.at (i:=3) rfl)⟩) ?_;clear hK;refine zAA (i:=13) (o:=⟨some 20,.call { callee:=.value (.func 71),args:=#[.tmp 15,.tmp 19],argTypes:=#[47,47] },47, "bezout.go:57",#[⟨8,.data⟩,⟨12,.data⟩,⟨12,.chain⟩],none⟩) (by kernel_rfl) rfl (fun K hK=>?_);go_simp;go_at_call 71;refine (zcH Zb.out Zv.out.zi (by omega) (by omega)).mono ?_;rintro e w9 ⟨r0,rfl,m0,b⟩;obtain ⟨nh,xh,adh,qh,rfl,-,-,-,-,-⟩:=id m0;replace Za:=hid (Za.out.now b);replace Zb:=hid (Zb.out.now b);replace Zt:=hid (Zt.out.now b);replace Zc:=hid (Zc.out.now b);replace Zd:=hid (Zd.out.now b);replace Zu:=hid (Zu.out.now b);replace Zg:=hid (Zg.out.now b);replace Zv:=hid (Zv.out.now b);replace PR:=hid (PR.out.step b);replace PT:=hid (PT.out.step b);replace PS:=hid (PS.out.step b);replace PQ:=hid (PQ.out.step b);replace G:=hid (below_step G.out b);have lz10:=(show Below _ _ _ from b).size;have Zh:=hid m0;clear b m0;refine hK.out _ _ (fun _=>⟨(PR.out.at (i:=0) rfl),(PR.out.at (i:=1) rfl),(PR.out.at (i:=2) rfl),(PR.out.at (i:=3) rfl),PT.out.c0,PT.out.c1,(PS.out.at (i:=0) rfl),(PS.out.at (i:=1) rfl),(PS.out.at (i:=2) rfl),(PS.out.at (i:=3) rfl)⟩) ?_;clear hK;refine zBA (i:=14) (oi:=⟨some 21,.build 141 #[(0,.tmp 13),(1,.tmp 20)],141, "bezout.go:57",#[⟨6,.data⟩,⟨13,.data⟩],none⟩) (v:=(.agg #[.bool ng,.slice adg xg.length qg,.bool nh,.slice adh xh.length qh])) rfl (by kernel_rfl) (fun _ _ _ h=>h) (Or.inl ⟨by rfl,?_⟩) ⟨(PR.out.at (i:=0) rfl),(PR.out.at (i:=1) rfl),(PR.out.at (i:=2) rfl),(PR.out.at (i:=3) rfl),PT.out.c0,PT.out.c1,(PS.out.at (i:=0) rfl),(PS.out.at (i:=1) rfl),(PS.out.at (i:=2) rfl),(PS.out.at (i:=3) rfl)⟩ ?_
 ·intro w hSw;(try dsimp only at hSw);go_simp
 simp only [Act.put,sIb,sC0,sC1];refine zAA (i:=15) (o:=⟨none,.store 141 (.tmp 6) (.tmp 21),0, "bezout.go:57",#[⟨14,.data⟩,⟨13,.chain⟩,⟨0,.phase⟩,⟨1,.phase⟩,⟨2,.phase⟩,⟨3,.phase⟩,⟨4,.phase⟩,⟨5,.phase⟩,⟨6,.phase⟩,⟨7,.phase⟩,⟨8,.phase⟩,⟨9,.phase⟩,⟨10,.phase⟩,⟨11,.phase⟩,⟨12,.phase⟩,⟨13,.phase⟩,⟨14,.phase⟩],none⟩) (by kernel_rfl) rfl (fun K hK=>?_);have cQ0:=(PQ.out.at (i:=0) rfl)
 have cQ1:=(PQ.out.at (i:=1) rfl)
 have cQ2:=(PQ.out.at (i:=2) rfl)
 have cQ3:=(PQ.out.at (i:=3) rfl)
 have fQ0:=PQ.out.fz 0;have fQ1:=PQ.out.fz 1;have fQ2:=PQ.out.fz 2;have fQ3:=PQ.out.fz 3;go_simp;clear cQ0 cQ1 cQ2 cQ3 fQ0 fQ1 fQ2 fQ3;obtain ⟨V11,hW⟩:∃V11,(((w9.setCell ⟨w.heap.size+1+1+1,0,none⟩ (.bool ng)).setCell ⟨w.heap.size+1+1+1,1,none⟩ (.slice adg xg.length qg)).setCell ⟨w.heap.size+1+1+1,2,none⟩ (.bool nh)).setCell ⟨w.heap.size+1+1+1,3,none⟩ (.slice adh xh.length qh)=V11:=⟨_,rfl⟩
 replace Za:=hid ((Za.out).wk ((PQ.out).wk4 (.bool ng) (.slice adg xg.length qg) (.bool nh) (.slice adh xh.length qh)));replace Zb:=hid ((Zb.out).wk ((PQ.out).wk4 (.bool ng) (.slice adg xg.length qg) (.bool nh) (.slice adh xh.length qh)));replace Zt:=hid ((Zt.out).wk ((PQ.out).wk4 (.bool ng) (.slice adg xg.length qg) (.bool nh) (.slice adh xh.length qh)));replace Zc:=hid ((Zc.out).wk ((PQ.out).wk4 (.bool ng) (.slice adg xg.length qg) (.bool nh) (.slice adh xh.length qh)));replace Zd:=hid ((Zd.out).wk ((PQ.out).wk4 (.bool ng) (.slice adg xg.length qg) (.bool nh) (.slice adh xh.length qh)));replace Zu:=hid ((Zu.out).put4z (PQ.out) (.bool ng) (.slice adg xg.length qg) (.bool nh) (.slice adh xh.length qh));replace Zg:=hid ((Zg.out).put4z (PQ.out) (.bool ng) (.slice adg xg.length qg) (.bool nh) (.slice adh xh.length qh));replace Zv:=hid ((Zv.out).put4z (PQ.out) (.bool ng) (.slice adg xg.length qg) (.bool nh) (.slice adh xh.length qh));replace Zh:=hid ((Zh.out).put4z (PQ.out) (.bool ng) (.slice adg xg.length qg) (.bool nh) (.slice adh xh.length qh));replace PR:=hid ((PR.out).away4 (b':=w.heap.size+1+1+1) (by omega) (.bool ng) (.slice adg xg.length qg) (.bool nh) (.slice adh xh.length qh));replace PT:=hid ((PT.out).away4 (b':=w.heap.size+1+1+1) (by omega) (.bool ng) (.slice adg xg.length qg) (.bool nh) (.slice adh xh.length qh));replace PS:=hid ((PS.out).away4 (b':=w.heap.size+1+1+1) (by omega) (.bool ng) (.slice adg xg.length qg) (.bool nh) (.slice adh xh.length qh));replace PQ:=hid ((PQ.out).put4 (.bool ng) (.slice adg xg.length qg) (.bool nh) (.slice adh xh.length qh));replace G:Hid (Below w.heap.size w (((((w9.setCell ⟨w.heap.size+1+1+1,0,none⟩ (.bool ng)).setCell ⟨w.heap.size+1+1+1,1,none⟩ (.slice adg xg.length qg)).setCell ⟨w.heap.size+1+1+1,2,none⟩ (.bool nh)).setCell ⟨w.heap.size+1+1+1,3,none⟩ (.slice adh xh.length qh)))):=bset (bset (bset (bset (G.out) (by omega)) (by omega)) (by omega)) (by omega);have sz11:V11.heap.size=w9.heap.size:=by rw [←hW];simp
 dsimp only [put4] at Za Zb Zt Zc Zd Zu Zg Zv Zh PR PT PS PQ;rw [hW] at Za Zb Zt Zc Zd Zu Zg Zv Zh PR PT PS PQ G;rw [hW];clear hW;refine hK.out _ _ (fun h=>absurd h (by decide)) ?_;clear hK
 try simp only [Act.put]
 refine zDA (by kernel_rfl) ?_ _;have YG:=hid ((Zg.out.mono (B':=w.heap.size) (by omega)).more (l:=k+k+1) (by omega));have YH:=hid ((Zh.out.mono (B':=w.heap.size) (by omega)).more (l:=k+k+1) (by omega));go_wp2;exact bodyPost_ret (rowback Tryz.results132 PQ.out _ (by rfl)) rfl ⟨_,_,_,_,rfl,YG.out,YH.out,G.out⟩



structure ExtV (A B g x y:Int):Prop where
 gcd:g=(Int.gcd A B:Int)
 lin:A*x+B*y=g
 rng:B≠0→0≤x∧x*g<(B.natAbs:Int)
 zero:B=0→x=cmpI A 0∧y=0
structure ExtI (A B a b x0 y0 x1 y1:Int):Prop where
 ea:a=A*x0+B*y0
 eb:b=A*x1+B*y1
 det:x0*y1-x1*y0=1∨x0*y1-x1*y0 = -1
 g:Int.gcd a b=Int.gcd A B
 bx:x1.natAbs*a.natAbs+x0.natAbs*b.natAbs≤B.natAbs
 by':y1.natAbs*a.natAbs+y0.natAbs*b.natAbs≤A.natAbs
 cx0:x0.natAbs≤max 1 B.natAbs
 cx1:x1.natAbs≤max 1 B.natAbs
 cy0:y0.natAbs≤max 1 A.natAbs
 cy1:y1.natAbs≤max 1 A.natAbs
 zz:B=0→x0=1∧y0=0∧x1=0
theorem extI_start (A B:Int):ExtI A B A B 1 0 0 1:=by
 refine ⟨by omega,by omega,.inl (by omega),rfl,by simp,by simp,?_,?_,?_,?_,fun _=>⟨rfl,rfl,rfl⟩⟩ <;> simp <;> omega
theorem gcd_tmod (a b:Int):Int.gcd b (a.tmod b)=Int.gcd a b:=by
 unfold Int.gcd;rw [Int.natAbs_tmod,Nat.gcd_comm a.natAbs b.natAbs];exact (Nat.gcd_rec b.natAbs a.natAbs ▸ Nat.gcd_comm _ _)
theorem natAbs_split (a b:Int):a.natAbs=(a.tdiv b).natAbs*b.natAbs+(a.tmod b).natAbs:=by
 rw [Int.natAbs_tmod,Int.natAbs_tdiv];exact (Nat.div_add_mod' a.natAbs b.natAbs).symm
theorem zTD {x q y:Int}:(x-q*y).natAbs≤x.natAbs+q.natAbs*y.natAbs:=by
 have:=Int.natAbs_sub_le x (q*y)
 rwa [Int.natAbs_mul] at this
theorem zFF {x0 x1 q a b r B:Nat} {n:Nat} (hn:n≤x0+q*x1) (ha:a=q*b+r) (h:x1*a+x0*b≤B):n*b+x1*r≤B:=by
 have h1:n*b≤(x0+q*x1)*b:=Nat.mul_le_mul_right b hn;have h2:(x0+q*x1)*b+x1*r=x1*a+x0*b:=by
  subst ha;simp only [Nat.add_mul,Nat.mul_add];have:q*x1*b=x1*(q*b):=by rw [Nat.mul_comm q x1,Nat.mul_assoc]
  omega
 omega
theorem zWD {n b m B:Nat} (hb:b≠0) (h:n*b+m≤B):n≤B:=by
 have:n*1≤n*b:=Nat.mul_le_mul_left n (by omega);omega
theorem ExtI.step {A B a b x0 y0 x1 y1:Int} (h:ExtI A B a b x0 y0 x1 y1) (hb:b≠0) :
  ExtI A B b (a.tmod b) x1 y1 (x0-a.tdiv b*x1) (y0-a.tdiv b*y1)∧(a.tmod b).natAbs<b.natAbs:=by
 obtain ⟨ea,eb,det,g,bx,by',cx0,cx1,cy0,cy1,zz⟩:=h;have hd:=(zEF (z:=a) hb).2.2.2;have hs:=natAbs_split a b;have hbn:b.natAbs≠0:=by omega
 have nx:=zFF (zTD (x:=x0) (q:=a.tdiv b) (y:=x1)) hs bx;have ny:=zFF (zTD (x:=y0) (q:=a.tdiv b) (y:=y1)) hs by'
 refine ⟨⟨eb,?_,?_,(gcd_tmod a b).trans g,nx,ny,cx1,?_,cy1,?_,?_⟩,?_⟩
 ·generalize a.tdiv b=q at *
  generalize a.tmod b=r at *;have:r=a-q*b:=by omega
  rw [this,ea,eb]
  grind
 ·generalize a.tdiv b=q at *
  rcases det with d | d
  ·exact .inr (by grind)
  ·exact .inl (by grind)
 ·exact Nat.le_trans (zWD hbn nx) (Nat.le_max_right _ _)
 ·exact Nat.le_trans (zWD hbn ny) (Nat.le_max_right _ _)
 ·intro e
  obtain ⟨q1,q2,_⟩:=zz e;subst e;rw [q1] at bx;simp at bx;omega
 ·rw [Int.natAbs_tmod]
  exact Nat.mod_lt _ (by omega)
theorem ExtI.last {A B a x0 y0 x1 y1:Int} (h:ExtI A B a 0 x0 y0 x1 y1) :
  (a.natAbs:Int)=(Int.gcd A B:Int)∧a.natAbs*x1.natAbs=B.natAbs∧A*x1+B*y1=0∧A*(x0*cmpI a 0)+B*(y0*cmpI a 0)=(a.natAbs:Int):=by
 obtain ⟨ea,eb,det,g,bx,by',cx0,cx1,cy0,cy1,zz⟩:=h;refine ⟨?_,?_,by omega,?_⟩
 ·rw [←g];simp
 ·have e:a*x1 = -(B*(x0*y1-x1*y0)):=by rw [ea];grind
  rw [←Int.natAbs_mul,e];rcases det with d | d <;> rw [d] <;> simp
 ·rw [show A*(x0*cmpI a 0)+B*(y0*cmpI a 0)=(A*x0+B*y0)*cmpI a 0 by grind,←ea,Int.mul_comm]
  exact zvH a
theorem ExtI.none {A a x0 y0 x1 y1:Int} (h:ExtI A 0 a 0 x0 y0 x1 y1):ExtV A 0 (a.natAbs:Int) (x0*cmpI a 0) (y0*cmpI a 0):=by
 obtain ⟨l1,l2,l3,l4⟩:=h.last;obtain ⟨q1,q2,_⟩:=h.zz rfl;have ea:=h.ea;refine ⟨l1,l4,fun e=>absurd rfl e,fun _=>?_⟩;subst q1 q2;have:a=A:=by omega
 subst this
 simp
theorem ExtI.some {A B a x0 y0 x1 y1:Int} (h:ExtI A B a 0 x0 y0 x1 y1) (hB:B≠0):x1≠0∧∀t l:Int,t*x1+l=x0*cmpI a 0→0≤l→l<(x1.natAbs:Int)→ExtV A B (a.natAbs:Int) l (y0*cmpI a 0-t*y1):=by
 obtain ⟨l1,l2,l3,l4⟩:=h.last;have hx:x1≠0:=fun e=>by subst e;simp at l2;omega
 refine ⟨hx,fun t l ht h0 hl=>⟨l1,?_,fun _=>⟨h0,?_⟩,fun e=>absurd e hB⟩⟩
 ·rw [←l4,←ht]
  have e:A*l+B*(y0*cmpI a 0-t*y1)=A*(t*x1+l)+B*(y0*cmpI a 0)-t*(A*x1+B*y1):=by grind
  rw [e,l3];omega
 ·have ha:0<a.natAbs:=Nat.pos_of_ne_zero (fun e=>by rw [e] at l2;simp at l2;omega)
  have e:(B.natAbs:Int)=(x1.natAbs:Int)*(a.natAbs:Int):=by rw [←l2];push_cast;exact Int.mul_comm _ _
  rw [e];exact Int.mul_lt_mul_of_pos_right hl (by omega)
theorem ExtV.small {A B g x y:Int} (h:ExtV A B g x y):x.natAbs≤max 1 B.natAbs∧y.natAbs≤max 1 A.natAbs∧(A≠0→B≠0→y.natAbs*g.natAbs≤A.natAbs):=by
 obtain ⟨hg,hl,hr,hz⟩:=h;have bc:=zSA A 0
 by_cases hB:B=0
 ·obtain ⟨q1,q2⟩:=hz hB
  subst q1 q2;exact ⟨by omega,by simp,fun _ e=>absurd hB e⟩
 ·obtain ⟨x0,xg⟩:=hr hB
  have gB:g.natAbs ∣ B.natAbs:=by rw [hg];exact Nat.gcd_dvd_right _ _
  have gA:g.natAbs ∣ A.natAbs:=by rw [hg];exact Nat.gcd_dvd_left _ _
  have g0:0<g:=by
   have:0<Int.gcd A B:=Int.gcd_pos_of_ne_zero_right A hB;omega
  have x1:x.natAbs≤B.natAbs:=by
   have:x*1≤x*g:=Int.mul_le_mul_of_nonneg_left (by omega) x0;omega
  refine ⟨by omega,?_⟩;obtain ⟨u,hu⟩:=gA;obtain ⟨v,hv⟩:=gB;have hv0:0<v:=Nat.pos_of_ne_zero (fun e=>by rw [e] at hv;simp at hv;omega);have gn:0<g.natAbs:=by omega
  have xv:x.natAbs+1≤v:=by
   have h1:x.natAbs*g.natAbs<g.natAbs*v:=by
    rw [←hv,←Int.natAbs_mul];have:=Int.mul_nonneg x0 (Int.le_of_lt g0);omega
   rw [Nat.mul_comm g.natAbs v] at h1;exact Nat.lt_of_mul_lt_mul_right h1
  have e:B.natAbs*y.natAbs≤g.natAbs+A.natAbs*x.natAbs:=by
   have:B*y=g-A*x:=by omega
   rw [←Int.natAbs_mul,this,←Int.natAbs_mul];exact Int.natAbs_sub_le _ _
  -- v |y| <= 1 + u |x| <= 1 + u (v - 1)
  have e2:v*y.natAbs≤1+u*x.natAbs:=by
   rw [hv,hu,Nat.mul_assoc,Nat.mul_assoc] at e;have e3:g.natAbs*(v*y.natAbs)≤g.natAbs*(1+u*x.natAbs):=by rw [Nat.mul_add,Nat.mul_one];exact e
   exact Nat.le_of_mul_le_mul_left e3 gn
  have e4:u*x.natAbs+u≤u*v:=by
   have:=Nat.mul_le_mul_left u xv;rw [Nat.mul_add,Nat.mul_one] at this;exact this
  by_cases hA:A=0
  ·have u0:u=0:=by
    rcases Nat.mul_eq_zero.1 (show g.natAbs*u=0 by rw [←hu,hA];rfl) with q | q <;> omega
   subst u0;refine ⟨?_,fun q=>absurd hA q⟩;have:1*y.natAbs≤v*y.natAbs:=Nat.mul_le_mul_right _ hv0;omega
  ·have u1:1≤u:=Nat.pos_of_ne_zero (fun q=>by rw [q] at hu;simp at hu;omega)
   have yu:y.natAbs≤u:=by
    have:v*y.natAbs≤v*u:=by rw [Nat.mul_comm v u];omega
    exact Nat.le_of_mul_le_mul_left this hv0
   have uA:u≤A.natAbs:=by
    rw [hu];have:=Nat.mul_le_mul_right u (show 1≤g.natAbs by omega);omega
   refine ⟨by omega,fun _ _=>?_⟩;rw [hu,Nat.mul_comm];exact Nat.mul_le_mul_left _ yu

end Go.Proofs.YtjjpodnjljfheaaGreat
