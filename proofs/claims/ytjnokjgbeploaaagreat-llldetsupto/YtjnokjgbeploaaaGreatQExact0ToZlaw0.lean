/-
 QExact0ToZlaw0: Exact0, ZDiv, ZStore, Cells6, Zlaw0, joined.
-/
import Derived.Test.YtjnokjgbeploaaaGreatQDivMod
import Derived.Test.YtjnokjgbeploaaaGreatQAlikeToShift

set_option maxRecDepth 100000
set_option maxHeartbeats 6400000
set_option linter.unusedVariables false
set_option linter.unusedSimpArgs false
namespace Go.Proofs.YtjnokjgbeploaaaGreat
open Go.RowKit
theorem exact_zero {w:World} {v u:Value} {ys:List Int} (h':Sl w.heap.size w u ys) (h0:wid ys=0) :
  Calls Tryz.prog 78 #[v,u] w fun e w'=>e=.returned (.tuple #[.slice none 0 0,.int .i64 4])∧Below w.heap.size w w':=by
 have HD:=divMod_zero (v:=v) h' h0;have hz:((4:Int) != 0)=true:=rfl;go_enter Tryz.func78,Tryz.ntmps78;go_wp2_with fail;refine HD.mono ?_;rintro e w1 ⟨rfl,hb⟩;have HB:=hid hb;clear HD hb;go_wp2;go_ret2;exact ⟨rfl,HB.out⟩
def Exacted (w:World) (xs ys:List Int) (e:Ending) (w':World):Prop :=
 ∃qs rs,zRA qs∧zRA rs∧val xs=val ys*val qs+val rs∧val rs<val ys∧qs.length≤xs.length∧Below w.heap.size w w' ∧
  ((rs=[]∧∃q,e=.returned (.tuple #[q,.int .i64 0])∧Own w.heap.size w' q qs)∨(rs≠[]∧e=.returned (.tuple #[.slice none 0 0,.int .i64 8])))
theorem exact_any {w:World} {v u:Value} {xs ys:List Int} (h:Sl w.heap.size w v xs) (h':Sl w.heap.size w u ys) (h1:wid ys≠0) (hxl:xs.length≤1099511627776) (hyl:ys.length≤1099511627776) :
  Calls Tryz.prog 78 #[v,u] w (Exacted w xs ys):=by
 have HD:=divMod_any h h' h1 hxl hyl;have hz:((0:Int) != 0)=false:=rfl;clear h h' h1;go_enter Tryz.func78,Tryz.ntmps78;go_wp2_with fail;refine HD.mono ?_;rintro e w1 ⟨qs,rs,q,r,rfl,hoq,hor,hcq,hcr,hv,hlt,hlq,hlr,_,hb⟩;obtain ⟨ra,rc,rfl⟩:=hor.form;have HX:Hid (val xs=val ys*val qs+val rs∧val rs<val ys):=⟨hv,hlt⟩
 have HB:=hid hb;have HO:=hid hoq;clear HD hb hoq hor hv hlt
 by_cases hr:rs=[]
 ·subst hr
  go_wp2;go_ret2;exact ⟨qs,[],hcq,hcr,HX.out.1,HX.out.2,hlq,HB.out,.inl ⟨rfl,q,rfl,HO.out⟩⟩
 ·obtain ⟨k,hk⟩:∃k,rs.length=k+1:=⟨rs.length-1,by have:=Nat.pos_of_ne_zero (fun e=>hr (List.eq_nil_of_length_eq_zero e));omega⟩
  rw [hk];go_wp2;go_ret2;exact ⟨qs,rs,hcq,hcr,HX.out.1,HX.out.2,hlq,HB.out,.inr ⟨hr,rfl⟩⟩
theorem bset {B g j:Nat} {w w':World} {u:Value} (h:Below B w w') (hg:B≤g):Below B w (w'.setCell ⟨g,j,none⟩ u):=h.setCell (p:=⟨g,j,none⟩) hg u
theorem zoE {f:Func} {s1 s3:Nat} (hr:f.results=#[ResultVar.cell s1 39,ResultVar.tmp s3]) {W:World} {b:Nat} {x y e:Value} (h:Duo W b x y) (tmps:Array Value) (ht:tmps[s1]?=some (.pointer (some ⟨b,0,none⟩))) (he:tmps[s3]?=some e) :
  (results f tmps).run Tryz.prog W=.ok (.tuple #[.agg #[x,y],e]) W:=by
 simp [results,hr,go_sem,ht,he,h.c0,h.c1]
def zAE (E:Int) (w:World) (q:Int) (k:Nat) (e:Ending) (w':World):Prop:=∃rq,e=.returned (.tuple #[rq,.int .i64 E])∧Zm w.heap.size w' rq q k∧Below w.heap.size w w'
abbrev zgI:Value:=.agg #[.bool false,.slice none 0 0]
theorem zmG (B:Nat) (w:World) (k:Nat):Zm B w zgI 0 k:=⟨false,[],none,0,rfl,Mine.nil _ _,⟨WF.nil,rfl⟩,fun _=>rfl,by simp [iv,val],Nat.zero_le _⟩
theorem gz1_end {E:Int} {w W:World} {B b:Nat} {x y:Value} {q:Int} {k:Nat} (h:Zm B W (.agg #[x,y]) q k) (hW:Below w.heap.size w W) (hb:w.heap.size≤b) (hB:b<B) :
  zAE E w q k (.returned (.tuple #[.agg #[x,y],.int .i64 E])) ((W.setCell ⟨b,0,none⟩ x).setCell ⟨b,1,none⟩ y) :=
 ⟨_,rfl,((h.setLow hB 0 x).setLow hB 1 y).mono (by omega),(hW.setCell (p:=⟨b,0,none⟩) hb x).setCell (p:=⟨b,1,none⟩) hb y⟩
theorem Own.mine5 {B:Nat} {w:World} {v:Value} {zs:List Int} (h:Own B w v zs):Mine B w v zs:=by
 obtain ⟨hw,h1 | ⟨g,r,h1,h2,h3,h4⟩⟩:=h
 ·exact ⟨hw,.inl h1⟩
 ·exact ⟨hw,.inr ⟨g,r,_,h1,by omega,by omega,.inr ⟨rfl,by unfold maxLen;omega⟩,h3,h4⟩⟩
theorem zqE {n:Bool} {xs:List Int} {z:Int} (hx:WF xs) (h:iv n xs=z):wid xs=0↔z=0:=by
 have h1:=zkD hx h
 constructor
 ·intro e
  have:=zwA xs e;omega
 ·intro e
  by_cases q:0<wid xs
  ·have:=zrA hx q
   omega
  ·omega
theorem div_iv {n m:Bool} {xs ys qs rs:List Int} (hx:WF xs) (hr:WF rs) (h:val xs=val ys*val qs+val rs) (h1:val rs<val ys):iv (n != m) qs=(iv n xs).tdiv (iv m ys)∧iv n rs=(iv n xs).tmod (iv m ys):=by
 have h0:=zHA hr;have hx0:=zHA hx;have e1:(val xs).tdiv (val ys)=val qs:=by
  rw [Int.tdiv_eq_ediv_of_nonneg hx0,h,Int.add_comm,Int.add_mul_ediv_left _ _ (by omega),Int.ediv_eq_zero_of_lt h0 h1,Int.zero_add]
 have e2:(val xs).tmod (val ys)=val rs:=by
  rw [Int.tmod_eq_emod_of_nonneg hx0,h,Int.mul_add_emod_self_left,Int.emod_eq_of_lt h0 h1]
 cases n <;> cases m <;> simp [iv,Int.neg_tdiv,Int.tdiv_neg,Int.neg_tmod,Int.tmod_neg,e1,e2]
theorem exact_zero_z {w:World} {v u:Value} {z y:Int} {k l:Nat} (h0:Zi w v z k) (h1:Zi w u y l) (hy:y=0) :
  Calls Tryz.prog 65 #[v,u] w (fun e w'=>e=.returned (.tuple #[zgI,.int .i64 4])∧Below w.heap.size w w'):=by
 have hv:=h0;have hu:=h1;obtain ⟨n,xs,a,c,rfl,s0,z0,k0⟩:=h0;obtain ⟨m,ys,b,d,rfl,s1,z1,k1⟩:=h1;obtain ⟨W0,hW0⟩:∃W0,((w.alloc (duo (.bool n) (.slice a xs.length c))).alloc (duo (.bool m) (.slice b ys.length d))).alloc zbox=W0:=⟨_,rfl⟩
 obtain ⟨b0,sz0⟩:=znB w (duo (.bool n) (.slice a xs.length c)) (duo (.bool m) (.slice b ys.length d)) zbox;rw [hW0] at b0 sz0;have p0:Duo W0 (w.heap.size) (.bool n) (.slice a xs.length c):=by rw [←hW0];exact zPA (zPA (zfA (by simp)) _) _
 have p1:Duo W0 (w.heap.size+1) (.bool m) (.slice b ys.length d):=by rw [←hW0];exact zPA (zfA (by simp)) _
 have r0:Duo W0 (w.heap.size+1+1) (.bool false) (.slice none 0 0):=by rw [←hW0];exact zfA (by simp)
 have HKB:Hid (∀w',Below W0.heap.size W0 w'→w'.cell? ⟨w.heap.size,0,none⟩=some (.bool n)∧w'.cell? ⟨w.heap.size,1,none⟩=some (.slice a xs.length c)∧w'.cell? ⟨w.heap.size+1,0,none⟩=some (.bool m)∧w'.cell? ⟨w.heap.size+1,1,none⟩=some (.slice b ys.length d)):=fun w' h=>⟨(p0.below h (by omega)).c0,(p0.below h (by omega)).c1,(p1.below h (by omega)).c0,(p1.below h (by omega)).c1⟩
 have HKR:Hid (∀w',Below W0.heap.size W0 w'→Duo w' (w.heap.size+1+1) (.bool false) (.slice none 0 0)):=fun w' h=>r0.below h (by omega)
 obtain ⟨i0,i1,i2,i3⟩:=HKB.out W0 (Below.refl _ _);have EW:=hid hW0;have B0:=hid b0;have HD:=hid (exact_zero (v:=.slice a xs.length c) (s1.now b0) ((zqE s1.1 z1).2 hy));have q4:((4:Int) != 0)=true:=rfl;clear hv hu s0 s1 z0 z1 p0 p1 r0 hW0 b0;go_enter Tryz.func65,Tryz.ntmps65;go_wp2_with fail;rw [EW.out];refine HD.out.mono ?_;rintro e w1 ⟨rfl,b1⟩;have HP1:=hid b1;have ra:=HKR.out w1 b1;have r0:=ra.c0;have r1:=ra.c1;have f0:=ra.fz 0;have f1:=ra.fz 1;have RR:=hid ra;clear b1 HD ra;go_wp2;exact bodyPost_ret (zoE Tryz.results65 (RR.out.set _ _) _ (by rfl) (by rfl)) rfl ⟨rfl,bset (bset (zBA B0.out HP1.out) (by omega)) (by omega)⟩
def ExactZ (w:World) (z y:Int) (k:Nat) (e:Ending) (w':World):Prop:=(z.tmod y=0∧zAE 0 w (z.tdiv y) k e w')∨(z.tmod y≠0∧e=.returned (.tuple #[zgI,.int .i64 8])∧Below w.heap.size w w')
theorem zTH {n:Bool} {rs:List Int} (h:zRA rs):iv n rs=0↔rs=[]:=by
 constructor
 ·intro e
  refine zFC h ?_;cases n <;> simp [iv] at e <;> exact e
 ·rintro rfl
  exact zWI n
theorem exact_z {w:World} {v u:Value} {z y:Int} {k l:Nat} (h0:Zi w v z k) (h1:Zi w u y l) (hy:y≠0) (hk:k≤1099511627776) (hl:l≤1099511627776) :
  Calls Tryz.prog 65 #[v,u] w (ExactZ w z y k):=by
 have hv:=h0;have hu:=h1;obtain ⟨n,xs,a,c,rfl,s0,z0,k0⟩:=h0;obtain ⟨m,ys,b,d,rfl,s1,z1,k1⟩:=h1;obtain ⟨W0,hW0⟩:∃W0,((w.alloc (duo (.bool n) (.slice a xs.length c))).alloc (duo (.bool m) (.slice b ys.length d))).alloc zbox=W0:=⟨_,rfl⟩
 obtain ⟨b0,sz0⟩:=znB w (duo (.bool n) (.slice a xs.length c)) (duo (.bool m) (.slice b ys.length d)) zbox;rw [hW0] at b0 sz0;have p0:Duo W0 (w.heap.size) (.bool n) (.slice a xs.length c):=by rw [←hW0];exact zPA (zPA (zfA (by simp)) _) _
 have p1:Duo W0 (w.heap.size+1) (.bool m) (.slice b ys.length d):=by rw [←hW0];exact zPA (zfA (by simp)) _
 have r0:Duo W0 (w.heap.size+1+1) (.bool false) (.slice none 0 0):=by rw [←hW0];exact zfA (by simp)
 have HKB:Hid (∀w',Below W0.heap.size W0 w'→w'.cell? ⟨w.heap.size,0,none⟩=some (.bool n)∧w'.cell? ⟨w.heap.size,1,none⟩=some (.slice a xs.length c)∧w'.cell? ⟨w.heap.size+1,0,none⟩=some (.bool m)∧w'.cell? ⟨w.heap.size+1,1,none⟩=some (.slice b ys.length d)):=fun w' h=>⟨(p0.below h (by omega)).c0,(p0.below h (by omega)).c1,(p1.below h (by omega)).c0,(p1.below h (by omega)).c1⟩
 have HKR:Hid (∀w',Below W0.heap.size W0 w'→Duo w' (w.heap.size+1+1) (.bool false) (.slice none 0 0)):=fun w' h=>r0.below h (by omega)
 obtain ⟨i0,i1,i2,i3⟩:=HKB.out W0 (Below.refl _ _);have EW:=hid hW0;have B0:=hid b0;have HD:=hid (exact_any (s0.now b0) (s1.now b0) (fun e=>hy ((zqE s1.1 z1).1 e)) (by omega) (by omega));have HV:Hid (∀qs rs,zRA rs→val xs=val ys*val qs+val rs→val rs<val ys→iv (n != m) qs=z.tdiv y∧iv n rs=z.tmod y):=fun qs rs hr h h1=>by
  rw [←z0,←z1];exact div_iv s0.1 hr.1 h h1
 have q0:((0:Int) != 0)=false:=rfl;have q8:((8:Int) != 0)=true:=rfl;clear hv hu s0 s1 z0 z1 p0 p1 r0 hW0 b0;go_enter Tryz.func65,Tryz.ntmps65;go_wp2_with fail;rw [EW.out];refine HD.out.mono ?_;rintro e w1 ⟨qs,rs,hcq,hcr,hv,hlt,hlq,b1,hend⟩;have HVV:=hid (HV.out qs rs hcr hv hlt);have HP1:=hid b1;obtain ⟨c10,c11,c12,c13⟩:=HKB.out w1 b1;have ra:=HKR.out w1 b1;clear hv hlt b1 HD HV i0 i1 i2 i3;rcases hend with ⟨hrs,q,rfl,hoq⟩ | ⟨hrs,rfl⟩
 ·obtain ⟨qa,qc,rfl⟩:=hoq.form
  have MQ:=hid hoq.mine5;have hz:Hid (z.tmod y=0):=by unfold Hid;rw [←HVV.out.2];exact (zTH hcr).2 hrs
  clear hoq ra;go_wp2_with fail;refine (zmA _ (n != m) qs.length qa qc MQ.out.len).mono ?_;rintro e w2 ⟨rfl,b2⟩;have HP2:=hid b2;have RR:=hid (HKR.out w2 (zBA HP1.out b2));have y0:=RR.out.c0;have y1:=RR.out.c1;have f0:=RR.out.fz 0;have f1:=RR.out.fz 1;clear b2;go_wp2;exact bodyPost_ret (zoE Tryz.results65 (RR.out.set _ _) _ (by rfl) (by rfl)) rfl (.inl ⟨hz.out,by rw [←HVV.out.1];exact gz1_end (B:=W0.heap.size) (ztI (MQ.out.below HP2.out) hcq (by omega)) (zBA B0.out (zBA HP1.out HP2.out)) (by omega) (by omega)⟩)
 ·have hz:Hid (z.tmod y≠0):=by unfold Hid;rw [←HVV.out.2];exact fun e=>hrs ((zTH hcr).1 e)
  have r0:=ra.c0;have r1:=ra.c1;have f0:=ra.fz 0;have f1:=ra.fz 1;have RR:=hid ra;clear ra;go_wp2;exact bodyPost_ret (zoE Tryz.results65 (RR.out.set _ _) _ (by rfl) (by rfl)) rfl (.inr ⟨hz.out,rfl,bset (bset (zBA B0.out HP1.out) (by omega)) (by omega)⟩)
def Zc (w:World) (v:Value) (z:Int) (k:Nat):Prop :=
 ∃n zs a c,v=.agg #[.bool n,.slice a zs.length c]∧Sl w.heap.size w (.slice a zs.length c) zs∧zRA zs∧(zs=[]→n=false)∧iv n zs=z∧zs.length≤k
theorem Zm.zc {B:Nat} {w:World} {v:Value} {z:Int} {k:Nat} (h:Zm B w v z k):Zc w v z k:=by
 obtain ⟨n,xs,a,c,h1,h2,h3,h4,h5,h6⟩:=h;exact ⟨n,xs,a,c,h1,h2.sl,h3,h4,h5,h6⟩
theorem Zc.zi {w:World} {v:Value} {z:Int} {k:Nat} (h:Zc w v z k):Zi w v z k:=by
 obtain ⟨n,xs,a,c,h1,h2,h3,h4,h5,h6⟩:=h;exact ⟨n,xs,a,c,h1,h2,h5,h6⟩
theorem Zc.now {w w':World} {v:Value} {z:Int} {k:Nat} (h:Zc w v z k) (hb:Below w.heap.size w w'):Zc w' v z k:=by
 obtain ⟨n,xs,a,c,h1,h2,h3,h4,h5,h6⟩:=h;exact ⟨n,xs,a,c,h1,h2.now hb,h3,h4,h5,h6⟩
theorem Zm.fit {B:Nat} {w:World} {v:Value} {z:Int} {k l:Nat} (h:Zm B w v z k) (hz:(z.natAbs:Int)<pw l):Zm B w v z l:=by
 obtain ⟨n,xs,a,c,h1,h2,h3,h4,h5,h6⟩:=h;have e:=zHA h3.1;refine ⟨n,xs,a,c,h1,h2,h3,h4,h5,zuB h3 ?_⟩;cases n <;> simp [iv] at h5 <;> omega
theorem Zi.lt {w:World} {v:Value} {z:Int} {k:Nat} (h:Zi w v z k):(z.natAbs:Int)<pw k:=by
 obtain ⟨n,xs,a,c,h1,h2,h5,h6⟩:=h;have e:=zHA h2.1;have e2:=ziA h2.1;have e3:=zyI h6;cases n <;> simp [iv] at h5 <;> omega
theorem Duo.blk {w:World} {b:Nat} {x y:Value} (h:Duo w b x y):b<w.heap.size:=(Array.getElem?_eq_some_iff.1 (show w.heap[b]?=_ from h)).1
theorem Duo.step {w w':World} {b:Nat} {x y:Value} (h:Duo w b x y) (hb:Below w.heap.size w w'):Duo w' b x y:=h.below hb h.blk
def Wk (w w':World):Prop:=w.heap.size≤w'.heap.size∧∀g off x,w.cell? ⟨g,off,none⟩=some (.int .u64 x)→w'.cell? ⟨g,off,none⟩=some (.int .u64 x)
theorem Wk.trans {w w' w'':World} (h:Wk w w') (h':Wk w' w''):Wk w w'':=⟨Nat.le_trans h.1 h'.1,fun g o x e=>h'.2 g o x (h.2 g o x e)⟩
theorem Wk.of {w w':World} (h:Below w.heap.size w w'):Wk w w':=by
 refine ⟨h.size,fun g off x e=>?_⟩;have hg:g<w.heap.size:=by
  by_cases q:g<w.heap.size
  ·exact q
  ·simp [World.cell?,Array.getElem?_eq_none (Nat.le_of_not_lt q)] at e
 simpa [World.cell?,h.block g hg] using e
theorem Wk.set {w:World} {p:Addr} {u v:Value} (h:w.cell? p=some u) (hu:∀x,u≠.int .u64 x):Wk w (w.setCell p v):=by
 refine ⟨by simp,fun g off x e=>?_⟩;rw [World.cell?_setCell_other _ _ _ _ (fun q=>?_)]
 ·exact e
 ·subst q
  rw [h] at e;exact hu x (by simpa using e)
theorem Sl.wk {w w':World} {v:Value} {xs:List Int} (h:Sl w.heap.size w v xs) (k:Wk w w'):Sl w'.heap.size w' v xs:=by
 obtain ⟨h1,a,cap,h2,h3,h4,h5⟩:=h;refine ⟨h1,a,cap,h2,h3,h4,?_⟩;rcases h5 with e | ⟨b,off,e,hb,hc⟩
 ·exact .inl e
 ·exact .inr ⟨b,off,e,Nat.lt_of_lt_of_le hb k.1,fun j hj=>k.2 _ _ _ (hc j hj)⟩
theorem Zi.wk {w w':World} {v:Value} {z:Int} {k:Nat} (h:Zi w v z k) (b:Wk w w'):Zi w' v z k:=by
 obtain ⟨n,xs,a,c,h1,h2,h3,h4⟩:=h;exact ⟨n,xs,a,c,h1,h2.wk b,h3,h4⟩
theorem Zc.wk {w w':World} {v:Value} {z:Int} {k:Nat} (h:Zc w v z k) (b:Wk w w'):Zc w' v z k:=by
 obtain ⟨n,xs,a,c,h1,h2,h3⟩:=h;exact ⟨n,xs,a,c,h1,h2.wk b,h3⟩
theorem Row.box {w:World} {g b i:Nat} {L:List Value} {x y u:Value} (h:Row w g L) (d:Duo w b x y):Row (w.setCell ⟨b,i,none⟩ u) g L:=by
 have hne:g≠b:=fun e=>by
  subst e;have:=(show w.heap[g]?=_ from h).symm.trans (show w.heap[g]?=_ from d);simp at this
 exact (Below.heap_setCell w _ u g (fun e=>hne (by simpa using e))).trans h
theorem Duo.set0 {w:World} {b:Nat} {x y:Value} (h:Duo w b x y) (u:Value):Duo (w.setCell ⟨b,0,none⟩ u) b u y:=by
 have h':w.heap[b]?=some (.cells #[x,y] 39 (0,0)):=h;have hlt:b<w.heap.size:=h.blk;have e:w.heap[b]=.cells #[x,y] 39 (0,0):=(Array.getElem?_eq_some_iff.1 h').2;unfold Duo World.setCell;simp [hlt,Array.getElem_modify,e]
theorem Mine.box {B:Nat} {w:World} {v:Value} {zs:List Int} (h:Mine B w v zs) {b:Nat} {x y:Value} (d:Duo w b x y) (u u':Value):Mine B ((w.setCell ⟨b,0,none⟩ u).setCell ⟨b,1,none⟩ u') v zs:=by
 obtain ⟨hw,h | ⟨g,r,cap,h1,h2,h3,h4,h5,h6⟩⟩:=h
 ·exact ⟨hw,.inl h⟩
 ·exact ⟨hw,.inr ⟨g,r,cap,h1,h2,h3,h4,h5,(h6.box d).box (d.set0 u)⟩⟩
theorem Zm.box {B:Nat} {w:World} {v:Value} {z:Int} {k:Nat} (h:Zm B w v z k) {b:Nat} {x y:Value} (d:Duo w b x y) (u u':Value):Zm B ((w.setCell ⟨b,0,none⟩ u).setCell ⟨b,1,none⟩ u') v z k:=by
 obtain ⟨n,xs,a,c,h1,h2,h3⟩:=h;exact ⟨n,xs,a,c,h1,h2.box d u u',h3⟩
theorem Duo.box {w:World} {b b':Nat} {x y:Value} (h:Duo w b x y) (hne:b'≠b) (u u':Value):Duo ((w.setCell ⟨b',0,none⟩ u).setCell ⟨b',1,none⟩ u') b x y:=(h.ne hne).ne hne
def Cel (w:World) (b:Nat) (T:TypeId) (L:List Value):Prop:=w.heap[b]?=some (.cells L.toArray T (0,0))
theorem Cel.blk {w:World} {b:Nat} {T:TypeId} {L:List Value} (h:Cel w b T L):b<w.heap.size:=(Array.getElem?_eq_some_iff.1 (show w.heap[b]?=_ from h)).1
theorem Cel.at {w:World} {b:Nat} {T:TypeId} {L:List Value} (h:Cel w b T L) {i:Nat} {v:Value} (e:L[i]?=some v):w.cell? ⟨b,i,none⟩=some v:=by
 simp [World.cell?,show w.heap[b]?=_ from h,e]
theorem Cel.fz {w:World} {b:Nat} {T:TypeId} {L:List Value} (h:Cel w b T L) (i:Nat):w.frozen? ⟨b,i,none⟩=false:=by simp [World.frozen?,show w.heap[b]?=_ from h]
theorem Cel.step {w w':World} {b:Nat} {T:TypeId} {L:List Value} (h:Cel w b T L) (hb:Below w.heap.size w w'):Cel w' b T L:=(hb.block b h.blk).trans h
theorem Cel.new (w:World) (T:TypeId) (L:List Value):Cel (w.alloc (.cells L.toArray T)) w.heap.size T L:=heap_alloc_new w _
theorem Cel.ne {w:World} {b b' i:Nat} {T:TypeId} {L:List Value} {u:Value} (h:Cel w b T L) (hne:b'≠b):Cel (w.setCell ⟨b',i,none⟩ u) b T L:=by
 have e:(w.setCell ⟨b',i,none⟩ u).heap[b]?=w.heap[b]?:=Below.heap_setCell w _ u b (fun e=>by simp at e;omega);exact e.trans h
theorem Cel.set {w:World} {b:Nat} {T:TypeId} {L:List Value} (h:Cel w b T L) (i:Nat) (v:Value):Cel (w.setCell ⟨b,i,none⟩ v) b T (L.set i v):=by
 have h':w.heap[b]?=some (.cells L.toArray T (0,0)):=h;have hlt:b<w.heap.size:=h.blk;have e:w.heap[b]=.cells L.toArray T (0,0):=(Array.getElem?_eq_some_iff.1 h').2;unfold Cel World.setCell;simp [hlt,Array.getElem_modify,e]
theorem Cel.wk {w:World} {b:Nat} {T:TypeId} {L:List Value} (h:Cel w b T L) {i:Nat} {u:Value} (e:L[i]?=some u) (hu:∀x,u≠.int .u64 x) (v:Value):Wk w (w.setCell ⟨b,i,none⟩ v):=Wk.set (h.at e) hu
def NoW (u:Value):Prop:=∀x,u≠.int .u64 x
theorem noB (n:Bool):NoW (.bool n):=by intro x;simp
theorem noS (a:Option Addr) (l c:Nat):NoW (.slice a l c):=by intro x;simp

end Go.Proofs.YtjnokjgbeploaaaGreat
