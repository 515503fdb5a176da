import Derived.Test.YtjjpodnjljfheaaGreatQDo11ToRowsI
import Derived.Test.YtjjpodnjljfheaaGreatQR5OnesToR5Add
import Derived.Test.YtjjpodnjljfheaaGreatQFil9ToRowsOf9
import Derived.Test.YtjjpodnjljfheaaGreatQLm6ToWk9
set_option maxRecDepth 100000
set_option maxHeartbeats 6400000
set_option linter.unusedVariables false
set_option linter.unusedSimpArgs false
namespace Go.Proofs.YtjjpodnjljfheaaGreat
open Go.RowKit
theorem Cel.ty12 {T T':TypeId} {w w':World} {b:Nat} {L:List Value} (h:Cel w b T L) (ht:Ty T' w w') (hT:T≠T'):Cel w' b T L:=ht.2 b _ _ _ h hT
theorem Duo.ty12 {w:World} {b:Nat} {x y:Value} (d:Duo w b x y) (u u':Value):Ty 47 w ((w.setCell ⟨b,0,none⟩ u).setCell ⟨b,1,none⟩ u') :=
 (Ty.set (show Cel w b 47 [x,y] from d)).trans (Ty.set (show Cel _ b 47 [u,y] from d.set0 u))
theorem Arr.ty12 {w:World} {g t:Nat} {ps:List (Value×Value)} (h:Arr w g ps) (x y:Value):Ty 47 w ((w.setCell ⟨g,t*2,none⟩ x).setCell ⟨g,t*2+1,none⟩ y) :=
 (Ty.set h.1).trans (Ty.set (h.1.set _ _))
theorem FilM.box {w:World} {g n i:Nat} {F:Nat→Int} {k b:Nat} {x y:Value} (h:FilM w g n i F k) (d:Duo w b x y) (hne:b≠g) (u u':Value):FilM ((w.setCell ⟨b,0,none⟩ u).setCell ⟨b,1,none⟩ u') g n i F k:=by
 obtain ⟨ps,h1,h2,h3⟩:=h;exact ⟨ps,(h1.ne hne).ne hne,h2,fun j p hj hp=>(h3 j p hj hp).box d u u'⟩
theorem FilM.ty12 {w:World} {g n i:Nat} {F:Nat→Int} {k t:Nat} (h:FilM w g n i F k) (x y:Value):Ty 47 w ((w.setCell ⟨g,t*2,none⟩ x).setCell ⟨g,t*2+1,none⟩ y):=by
 obtain ⟨ps,h1,h2,h3⟩:=h;exact h1.ty12 x y
theorem FilM.blk {w:World} {g n i:Nat} {F:Nat→Int} {k:Nat} (h:FilM w g n i F k):g<w.heap.size:=by
 obtain ⟨ps,h1,h2,h3⟩:=h;exact h1.1.blk
def MB (w wx:World) (bm:Nat) (A0 B0 M0:List Value):Prop:=Cel wx w.heap.size 24 A0∧Cel wx (w.heap.size+1) 24 B0∧Cel wx (w.heap.size+1+1) 24 [.int .i64 0,.int .i64 0,.slice none 0 0]∧Cel wx bm 24 M0∧Below w.heap.size w wx
theorem MB.step {w x y:World} {bm:Nat} {A0 B0 M0:List Value} (h:MB w x bm A0 B0 M0) (hb:Below x.heap.size x y):MB w y bm A0 B0 M0:=⟨h.1.step hb,h.2.1.step hb,h.2.2.1.step hb,h.2.2.2.1.step hb,below_step h.2.2.2.2 hb⟩
theorem MB.ty {w x y:World} {bm:Nat} {A0 B0 M0:List Value} (h:MB w x bm A0 B0 M0) (ht:Ty 47 x y) (hb:Below w.heap.size w y):MB w y bm A0 B0 M0:=⟨h.1.ty12 ht (by decide),h.2.1.ty12 ht (by decide),h.2.2.1.ty12 ht (by decide),h.2.2.2.1.ty12 ht (by decide),hb⟩
def mulF (m c:Nat) (xs ys:List Int) (i j:Nat) (k:Nat):Int:=su k fun t=>xs.getD (i*m+t) 0*ys.getD (t*c+j) 0
def mulE (m c:Nat) (xs ys:List Int) (t:Nat):Int:=mulF m c xs ys (t / c) (t % c) m
def mulL (r m c:Nat) (xs ys:List Int):List Int:=(List.range (r*c)).map (mulE m c xs ys)
theorem zEI {m c i j:Nat} {xs ys:List Int} (hj:j<c):mulE m c xs ys (i*c+j)=mulF m c xs ys i j m:=by
 unfold mulE;have e1:(i*c+j) / c=i:=by rw [Nat.mul_comm,Nat.mul_add_div (by omega),Nat.div_eq_of_lt hj];omega
 have e2:(i*c+j) % c=j:=by rw [Nat.mul_comm,Nat.mul_add_mod,Nat.mod_eq_of_lt hj]
 rw [e1,e2]
def MulI (w:World) (bm g r c N:Nat) (F:Nat→Int) (kk:Nat) (A0 B0 M0:List Value) (gk:Nat) (s:Value) (wx:World):Prop :=
 ∃i:Nat,s=.int .i64 (i:Int)∧i≤r∧gk=r-i∧FilM wx g N (i*c) F kk∧MB w wx bm A0 B0 M0
def MulJ (w:World) (bm g i c N:Nat) (F:Nat→Int) (kk:Nat) (A0 B0 M0:List Value) (gk:Nat) (s:Value) (wx:World):Prop :=
 ∃j:Nat,s=.int .i64 (j:Int)∧j≤c∧gk=c-j∧FilM wx g N (i*c+j) F kk∧MB w wx bm A0 B0 M0
def MulK (w:World) (bm g T m N bx:Nat) (F:Nat→Int) (f:Nat→Int) (kk k0:Nat) (A0 B0 M0:List Value) (gk:Nat) (s:Value) (wx:World):Prop :=
 ∃t:Nat,s=.int .i64 (t:Int)∧t≤m∧gk=m-t∧FilM wx g N T F kk∧MB w wx bm A0 B0 M0∧∃n a l c,Duo wx bx (.bool n) (.slice a l c)∧Zm 0 wx (.agg #[.bool n,.slice a l c]) (f t) (k0+t)
theorem zJC {r c i j:Nat} (hi:i<r) (hj:j<c):i*c+j<r*c:=by
 have:(i+1)*c≤r*c:=Nat.mul_le_mul_right c hi;rw [Nat.succ_mul] at this;omega
theorem Prs.isI12 {B:Nat} {w:World} {v:Value} {ps:List (Value×Value)} {zs:List Int} {k t:Nat} (h:Prs B w v ps) (hz:Zis w ps zs k) (ht:t<zs.length):∃b off cap n a l c,v=.slice (some ⟨b,off,none⟩) zs.length cap∧w.cell? ⟨b,off+t*2,none⟩=some (.bool n)∧w.cell? ⟨b,off+t*2+1,none⟩=some (.slice a l c)∧Zi w (.agg #[.bool n,.slice a l c]) (zs.getD t 0) k:=by
 obtain ⟨a0,c0,rfl,h2,h3,h4,h5⟩:=h.form;obtain ⟨b,off,rfl,-⟩:=h5 (fun e=>by have:=hz.1;rw [e] at this;simp at this;omega);have hp:ps[t]?=some (ps[t]'(by have:=hz.1;omega)):=List.getElem?_eq_getElem (by have:=hz.1;omega);have hq:zs[t]?=some (zs[t]):=List.getElem?_eq_getElem ht;have h6:=hz.2 t _ _ hp hq;obtain ⟨n,a,l,c,e⟩:=h6.isI;have h7:=h.at hp;have e':ps[t]'(by have:=hz.1;omega)=(.bool n,.slice a l c):=e;rw [e'] at h6 h7;refine ⟨b,off,c0,n,a,l,c,by rw [hz.1],h7.1,h7.2,?_⟩;have:zs.getD t 0=zs[t]:=by simp [ht]
 rw [this];exact h6
theorem zFH {w:World} {va vb:Value} {r m c:Nat} {xs ys:List Int} {ka kb:Nat} (ha:Mx w va r m xs ka) (hb:Mx w vb m c ys kb) (hk:ka+kb+64≤1099511627776) :
  Calls Tryz.prog 9 #[va,vb] w (zyA w r c (mulL r m c xs ys) (ka+kb+64)):=by
 have HBT:Hid (∀w',Below w.heap.size w w'→Calls Tryz.prog 28 #[va,vb] w' (RCk w')):=fun w' h=>rboth12 (ha.now h) (hb.now h)
 have HBL:Hid (∀w',Calls Tryz.prog 29 #[.int .i64 (r:Int),.int .i64 (c:Int)] w' (zvF w' r c (r*c))):=by
  obtain ⟨_,_,_,h1,_⟩:=ha.form;obtain ⟨_,_,_,_,h2⟩:=hb.form;exact fun w'=>zcF h1 h2 rfl
 obtain ⟨ata,pa,rfl,pa1,pa2,pa3,hr,hm⟩:=ha;obtain ⟨atb,pb,rfl,pb1,pb2,pb3,-,hc⟩:=hb;have HAA:Hid (∀wx,Below w.heap.size w wx→∀t,t<r*m→∃b off cap n a l c,ata=.slice (some ⟨b,off,none⟩) (r*m) cap∧wx.cell? ⟨b,off+t*2,none⟩=some (.bool n)∧wx.cell? ⟨b,off+t*2+1,none⟩=some (.slice a l c)∧Zi wx (.agg #[.bool n,.slice a l c]) (xs.getD t 0) ka):=fun wx h t ht=>by
  have:=(pa1.now h).isI12 (pa2.now h) (t:=t) (by rw [pa3];exact ht);rw [pa3] at this;exact this
 have HBB:Hid (∀wx,Below w.heap.size w wx→∀t,t<m*c→∃b off cap n a l c',atb=.slice (some ⟨b,off,none⟩) (m*c) cap∧wx.cell? ⟨b,off+t*2,none⟩=some (.bool n)∧wx.cell? ⟨b,off+t*2+1,none⟩=some (.slice a l c')∧Zi wx (.agg #[.bool n,.slice a l c']) (ys.getD t 0) kb):=fun wx h t ht=>by
  have:=(pb1.now h).isI12 (pb2.now h) (t:=t) (by rw [pb3];exact ht);rw [pb3] at this;exact this
 have hrc:r*c≤64*64:=Nat.mul_le_mul hr hc;obtain ⟨N,hN⟩:∃N,r*c=N:=⟨_,rfl⟩
 have HNN:=hid hN;rw [hN] at HBL hrc;obtain ⟨W0,hW⟩:∃W0,((w.alloc (matO r m ata)).alloc (matO m c atb)).alloc mbox=W0:=⟨_,rfl⟩
 obtain ⟨b0,sz0⟩:=zkC w (matO r m ata) (matO m c atb) mbox;rw [hW] at b0 sz0;have PA:Hid (Cel W0 w.heap.size 24 (matc r m ata)):=by
  unfold Hid;rw [←hW];exact (((Cel.new w 24 (matc r m ata)).step ((Below.refl _ _).alloc (Nat.le_refl _) _)).step ((Below.refl _ _).alloc (Nat.le_refl _) _))
 have PB:Hid (Cel W0 (w.heap.size+1) 24 (matc m c atb)):=by
  unfold Hid;rw [←hW];have:=((Cel.new (w.alloc (matO r m ata)) 24 (matc m c atb)).step ((Below.refl _ _).alloc (Nat.le_refl _) mbox))
  simpa using this
 have PR:Hid (Cel W0 (w.heap.size+1+1) 24 [.int .i64 0,.int .i64 0,.slice none 0 0]):=by
  unfold Hid;rw [←hW];have:=Cel.new ((w.alloc (matO r m ata)).alloc (matO m c atb)) 24 [.int .i64 0,.int .i64 0,.slice none 0 0]
  simpa using this
 have x0:=PA.out.at (i:=0) rfl;have x1:=PA.out.at (i:=1) rfl;have x2:=PA.out.at (i:=2) rfl;have y0:=PB.out.at (i:=0) rfl;have y1:=PB.out.at (i:=1) rfl;have y2:=PB.out.at (i:=2) rfl;rw [←hW] at x0 x1 x2 y0 y1 y2;have G0:=hid b0;have SZ:=hid sz0;have HK:=hid hk;have EW:=hid hW;clear pa1 pa2 pb1 pb2 pa3 pb3 b0 sz0 hW hk hN;go_enter Tryz.func9,Tryz.ntmps9;go_wp2_with fail;rw [EW.out];refine (HBT.out _ G0.out).mono ?_;rintro e w1 ⟨rfl,b1⟩;have PA1:=hid (PA.out.step b1);have PB1:=hid (PB.out.step b1);have PR1:=hid (PR.out.step b1);have G1:=hid (below_step G0.out b1);clear x0 x1 x2 y0 y1 y2 EW PA PB PR G0 HBT;have x0:=PA1.out.at (i:=0) rfl;have x1:=PA1.out.at (i:=1) rfl;have y0:=PB1.out.at (i:=0) rfl;have y1:=PB1.out.at (i:=1) rfl;have sz1:=b1.size;have q0:((m:Int) != (m:Int))=false:=by simp
 go_wp2_with fail;refine (HBL.out _).mono ?_;rintro e w2 ⟨g,rfl,hge,harr,b2⟩;clear x0 x1 y0 y1 q0 HBL;obtain ⟨V1,hV⟩:∃V1,w2.alloc (matO r c (.slice (some ⟨g,0,none⟩) N N))=V1:=⟨_,rfl⟩
 obtain ⟨b3,sz3⟩:=alo1 w2 (matO r c (.slice (some ⟨g,0,none⟩) N N));rw [hV] at b3 sz3;have PM:Hid (Cel V1 w2.heap.size 24 (matc r c (.slice (some ⟨g,0,none⟩) N N))):=by unfold Hid;rw [←hV];exact Cel.new w2 _ _
 have HGW:Hid (w.heap.size+1+1<g):=by unfold Hid;have h1:=SZ.out;omega
 have H0:Hid (MulI w w2.heap.size g r c N (mulE m c xs ys) (ka+kb+64) (matc r m ata) (matc m c atb) (matc r c (.slice (some ⟨g,0,none⟩) N N)) r (.int .i64 0) V1) :=
  ⟨0,rfl,Nat.zero_le _,by omega,by rw [Nat.zero_mul];exact (FilM.start harr _ _).step b3,(PA1.out.step b2).step b3,(PB1.out.step b2).step b3,(PR1.out.step b2).step b3,PM.out,below_step (below_step G1.out b2) b3⟩
 have hsz2:=b2.size;have HBM:Hid (w.heap.size+1+1<w2.heap.size):=by unfold Hid;have h1:=SZ.out;omega
 have EV:=hid hV;clear PA1 PB1 PR1 G1 harr b1 b2 b3 sz3 PM hV hge SZ sz1 hsz2;go_wp2_with fail;rw [EV.out];clear EV;obtain ⟨bm,hbm⟩:∃bm,w2.heap.size=bm:=⟨_,rfl⟩
 rw [hbm] at H0 HBM ⊢;clear hbm
 go_loopg [8] r (fun gk s8 wx=>MulI w bm g r c N (mulE m c xs ys) (ka+kb+64) (matc r m ata) (matc m c atb) (matc r c (.slice (some ⟨g,0,none⟩) N N)) gk s8 wx)
 case atStart=>exact H0.out
 case round =>
  clear H0;obtain ⟨i,rfl,hin,hg,hfil,hmb⟩:=hrel;have FI:=hid hfil;have MBx:=hid hmb;have HG:=hid hg;clear hfil hmb hg;have x0:=MBx.out.1.at (i:=0) rfl
  by_cases hlt:i<r
  ·have hlt':(i:Int)<(r:Int):=by omega
   have hw:=zbA (i:=i) (by omega);have HMM:Hid (r-(i+1)<gk):=by unfold Hid;rw [HG.out];omega
   have H1:Hid (MulJ w bm g i c N (mulE m c xs ys) (ka+kb+64) (matc r m ata) (matc m c atb) (matc r c (.slice (some ⟨g,0,none⟩) N N)) c (.int .i64 0) wr):=⟨0,rfl,Nat.zero_le _,by omega,FI.out,MBx.out⟩
   clear HG FI MBx;go_wp2_with fail
   go_loopg [9] c (fun gk2 s9 wx=>MulJ w bm g i c N (mulE m c xs ys) (ka+kb+64) (matc r m ata) (matc m c atb) (matc r c (.slice (some ⟨g,0,none⟩) N N)) gk2 s9 wx)
   case atStart=>exact H1.out
   case round =>
    clear H1 x0;obtain ⟨j,rfl,hjn,hg,hfil,hmb⟩:=hrel;have FI:=hid hfil;have MBx:=hid hmb;have HG:=hid hg;clear hfil hmb hg;have y1:=MBx.out.2.1.at (i:=1) rfl
    by_cases hlt2:j<c
    ·have hlt2':(j:Int)<(c:Int):=by omega
     have hw2:=zbA (i:=j) (by omega);have HMM2:Hid (c-(j+1)<gk):=by unfold Hid;rw [HG.out];omega
     obtain ⟨X1,hX⟩:∃X1,wr.alloc zbox=X1:=⟨_,rfl⟩
     obtain ⟨b1,sz1⟩:=alo1 wr zbox;rw [hX] at b1 sz1;have PX:Hid (Duo X1 wr.heap.size (.bool false) (.slice none 0 0)):=by unfold Hid;rw [←hX];exact Duo.new wr _ _
     obtain ⟨bx,hbx⟩:∃bx,wr.heap.size=bx:=⟨_,rfl⟩
     have HGX:Hid (g<bx∧w.heap.size<bx):=by unfold Hid;rw [←hbx];exact ⟨FI.out.blk,MBx.out.1.blk⟩
     have H2:Hid (MulK w bm g (i*c+j) m N bx (mulE m c xs ys) (mulF m c xs ys i j) (ka+kb+64) (ka+kb) (matc r m ata) (matc m c atb) (matc r c (.slice (some ⟨g,0,none⟩) N N)) m (.int .i64 0) X1) :=
      ⟨0,rfl,Nat.zero_le _,by omega,FI.out.step b1,MBx.out.step b1,false,none,0,0,by rw [←hbx];exact PX.out,⟨false,[],none,0,rfl,Mine.nil _ _,⟨WF.nil,rfl⟩,fun _=>rfl,by simp [iv,val,mulF,su],Nat.zero_le _⟩⟩
     have EX:=hid hX;have HBX:=hid hbx;have hmc:i*c+j<N:=by rw [←HNN.out];exact zJC hlt hlt2
     clear b1 sz1 hX PX FI MBx HG hbx;go_wp2_with fail;rw [EX.out,HBX.out];clear EX HBX y1
     go_loopg [11] m (fun gk3 s11 wx=>MulK w bm g (i*c+j) m N bx (mulE m c xs ys) (mulF m c xs ys i j) (ka+kb+64) (ka+kb) (matc r m ata) (matc m c atb) (matc r c (.slice (some ⟨g,0,none⟩) N N)) gk3 s11 wx)
     case atStart=>exact H2.out
     case round =>
      clear H2;obtain ⟨t,rfl,htn,hg,hfil,hmb,ns,as_,ls,cs,hduo,hzm⟩:=hrel;have FI:=hid hfil;have MBx:=hid hmb;have HG:=hid hg;have DX:=hid hduo;have ZX:=hid hzm;clear hfil hmb hg hduo hzm;have x1:=MBx.out.1.at (i:=1) rfl
      by_cases hlt3:t<m
      ·have hlt3':(t:Int)<(m:Int):=by omega
       have hw3:=zbA (i:=t) (by omega);have HMM3:Hid (m-(t+1)<gk):=by unfold Hid;rw [HG.out];omega
       have hp1:i*m+t<r*m:=zJC hlt hlt3;have hp2:t*c+j<m*c:=zJC hlt3 hlt2;have hrm:r*m≤64*64:=Nat.mul_le_mul hr hm;have hmc2:m*c≤64*64:=Nat.mul_le_mul hm hc;obtain ⟨b1,o1,c1,n1,a1,l1,d1,rfl,u0,u1,z1⟩:=HAA.out wr MBx.out.2.2.2.2 (i*m+t) hp1;obtain ⟨b2,o2,c2,n2,a2,l2,d2,rfl,v0,v1,z2⟩:=HBB.out wr MBx.out.2.2.2.2 (t*c+j) hp2;have k1:=zJB (i:=i) (c:=m) (by omega) hm;have k2:=zJB (i:=t) (c:=c) (by omega) hc;have k3:IntKind.i64.wrap (((i*m:Nat):Int)+(t:Int))=((i*m+t:Nat):Int):=by rw [zTA] <;> omega
       have k4:IntKind.i64.wrap (((t*c:Nat):Int)+(j:Int))=((t*c+j:Nat):Int):=by rw [zTA] <;> omega
       have HS:Hid (∀w',Below wr.heap.size wr w'→Calls Tryz.prog 30 #[.agg #[.bool n1,.slice a1 l1 d1],.agg #[.bool n2,.slice a2 l2 d2],.agg #[.bool ns,.slice as_ ls cs]] w' (zmA w' (mulF m c xs ys i j (t+1)) (ka+kb+(t+1)))):=fun w' h=>by
        have q:=rmulAdd_z (z1.now h) (z2.now h) (ZX.out.zi.now h) (by have:=HK.out;omega) (by have:=HK.out;omega);refine q.mono ?_;rintro e w'' ⟨rr,q1,q2,q3⟩;refine ⟨rr,q1,?_,q3⟩;have e1:xs.getD (i*m+t) 0*ys.getD (t*c+j) 0+mulF m c xs ys i j t=mulF m c xs ys i j (t+1):=by
         show _=mulF m c xs ys i j t+xs.getD (i*m+t) 0*ys.getD (t*c+j) 0
         exact Int.add_comm _ _
        rw [e1] at q2;exact q2.more (by omega)
       obtain ⟨n3,hn3⟩:∃n3,r*m=n3:=⟨_,rfl⟩
       obtain ⟨n4,hn4⟩:∃n4,m*c=n4:=⟨_,rfl⟩
       obtain ⟨q1,hq1⟩:∃q1,i*m=q1:=⟨_,rfl⟩
       obtain ⟨q2,hq2⟩:∃q2,t*c=q2:=⟨_,rfl⟩
       rw [hn3] at hp1 hrm MBx;rw [hn4] at hp2 hmc2 MBx;rw [hq1] at hp1 k1 k3 u0 u1;rw [hq2] at hp2 k2 k4 v0 v1;obtain ⟨t1,ht1⟩:∃t1,q1+t=t1:=⟨_,rfl⟩
       obtain ⟨t2,ht2⟩:∃t2,q2+j=t2:=⟨_,rfl⟩
       rw [ht1] at hp1 k3 u0 u1;rw [ht2] at hp2 k4 v0 v1;have hp1':(t1:Int)<(n3:Int):=by omega
       have hp2':(t2:Int)<(n4:Int):=by omega
       have k1':=k1;have k2':=k2;have k3':=k3;have k4':=k4;rw [IntKind.wrap_i64] at k1' k2' k3' k4';have x2:=MBx.out.1.at (i:=2) rfl;have y1:=MBx.out.2.1.at (i:=1) rfl;have y2:=MBx.out.2.1.at (i:=2) rfl;have s0:=DX.out.c0;have s1:=DX.out.c1;have E3:=hid hn3;have E4:=hid hn4;clear z1 z2 hn3 hn4 hq1 hq2 ht1 ht2 HG ZX;go_wp2_with fail;have KB:Hid (∀w',Below wr.heap.size wr w'→w'.cell? ⟨w.heap.size,1,none⟩=some (.int .i64 (m:Int))∧w'.cell? ⟨w.heap.size,2,none⟩=some (.slice (some ⟨b1,o1,none⟩) n3 c1)∧w'.cell? ⟨w.heap.size+1,1,none⟩=some (.int .i64 (c:Int))∧w'.cell? ⟨w.heap.size+1,2,none⟩=some (.slice (some ⟨b2,o2,none⟩) n4 c2)∧w'.cell? ⟨b1,o1+t1*2,none⟩=some (.bool n1)∧w'.cell? ⟨b1,o1+t1*2+1,none⟩=some (.slice a1 l1 d1)∧w'.cell? ⟨b2,o2+t2*2,none⟩=some (.bool n2)∧w'.cell? ⟨b2,o2+t2*2+1,none⟩=some (.slice a2 l2 d2)∧w'.cell? ⟨bx,0,none⟩=some (.bool ns)∧w'.cell? ⟨bx,1,none⟩=some (.slice as_ ls cs)):=fun w' h=>⟨cnow h x1,cnow h x2,cnow h y1,cnow h y2,cnow h u0,cnow h u1,cnow h v0,cnow h v1,cnow h s0,cnow h s1⟩
       refine zEA (fun w'=>w'.cell? ⟨w.heap.size,1,none⟩=some (.int .i64 (m:Int))∧w'.cell? ⟨w.heap.size,2,none⟩=some (.slice (some ⟨b1,o1,none⟩) n3 c1)∧w'.cell? ⟨w.heap.size+1,1,none⟩=some (.int .i64 (c:Int))∧w'.cell? ⟨w.heap.size+1,2,none⟩=some (.slice (some ⟨b2,o2,none⟩) n4 c2)∧w'.cell? ⟨b1,o1+t1*2,none⟩=some (.bool n1)∧w'.cell? ⟨b1,o1+t1*2+1,none⟩=some (.slice a1 l1 d1)∧w'.cell? ⟨b2,o2+t2*2,none⟩=some (.bool n2)∧w'.cell? ⟨b2,o2+t2*2+1,none⟩=some (.slice a2 l2 d2)∧w'.cell? ⟨bx,0,none⟩=some (.bool ns)∧w'.cell? ⟨bx,1,none⟩=some (.slice as_ ls cs)) 22 (by kernel_rfl) ?_;obtain ⟨D1,hD⟩:∃D1,wr.drew=D1:=⟨_,rfl⟩
       have GB:Hid (Below wr.heap.size wr D1):=by unfold Hid;rw [←hD];exact (Below.refl _ _).drew
       rw [hD];clear hD;have GBs:=GB;refine zBA (i:=0) (oi:=⟨some 49,.fieldAddr 24 (.tmp 2) 2,0, "ref.go:161",#[],none⟩) (v:=(.pointer (some ⟨w.heap.size,2,none⟩))) rfl (by kernel_rfl) (fun _ _ _ h=>h) (Or.inl ⟨by rfl,?_⟩) (KB.out _ GB.out) ?_
       ·intro w hSw;(try dsimp only at hSw);go_simp
       simp only [Act.put,sIb,sC0,sC1];refine zBA (i:=1) (oi:=⟨some 50,.load 22 (.tmp 49),22, "ref.go:161",#[⟨0,.data⟩],none⟩) (v:=(.slice (some ⟨b1,o1,none⟩) n3 c1)) rfl (by kernel_rfl) (fun _ _ _ h=>h) (Or.inl ⟨by rfl,?_⟩) (KB.out _ GB.out) ?_
       ·intro w hSw;(try dsimp only at hSw);go_simp
       simp only [Act.put,sIb,sC0,sC1];refine zBA (i:=2) (oi:=⟨some 51,.move (.tmp 8),3, "ref.go:161",#[],none⟩) (v:=(.int .i64 (i:Int))) rfl (by kernel_rfl) (fun _ _ _ h=>h) (Or.inl ⟨by rfl,?_⟩) (KB.out _ GB.out) ?_
       ·intro w hSw;(try dsimp only at hSw);go_simp
       simp only [Act.put,sIb,sC0,sC1];refine zBA (i:=3) (oi:=⟨some 52,.fieldAddr 24 (.tmp 2) 1,0, "ref.go:161",#[],none⟩) (v:=(.pointer (some ⟨w.heap.size,1,none⟩))) rfl (by kernel_rfl) (fun _ _ _ h=>h) (Or.inl ⟨by rfl,?_⟩) (KB.out _ GB.out) ?_
       ·intro w hSw;(try dsimp only at hSw);go_simp
       simp only [Act.put,sIb,sC0,sC1];refine zBA (i:=4) (oi:=⟨some 53,.load 3 (.tmp 52),3, "ref.go:161",#[⟨3,.data⟩],none⟩) (v:=(.int .i64 (m:Int))) rfl (by kernel_rfl) (fun _ _ _ h=>h) (Or.inl ⟨by rfl,?_⟩) (KB.out _ GB.out) ?_
       ·intro w hSw;(try dsimp only at hSw);go_simp
       simp only [Act.put,sIb,sC0,sC1];refine zBA (i:=5) (oi:=⟨some 54,.binOp .mul 3 (.tmp 51) (.tmp 53) 3,3, "ref.go:161",#[⟨2,.data⟩,⟨4,.data⟩],none⟩) (v:=(.int .i64 (q1:Int))) rfl (by kernel_rfl) (fun _ _ _ h=>h) (Or.inl ⟨by rfl,?_⟩) (KB.out _ GB.out) ?_
       ·intro w hSw;(try dsimp only at hSw);go_simp
       simp only [Act.put,sIb,sC0,sC1];refine zBA (i:=6) (oi:=⟨some 55,.move (.tmp 11),3, "ref.go:161",#[],none⟩) (v:=(.int .i64 (t:Int))) rfl (by kernel_rfl) (fun _ _ _ h=>h) (Or.inl ⟨by rfl,?_⟩) (KB.out _ GB.out) ?_
       ·intro w hSw;(try dsimp only at hSw);go_simp
       simp only [Act.put,sIb,sC0,sC1];refine zBA (i:=7) (oi:=⟨some 56,.binOp .add 3 (.tmp 54) (.tmp 55) 3,3, "ref.go:161",#[⟨5,.data⟩,⟨6,.data⟩],none⟩) (v:=(.int .i64 (t1:Int))) rfl (by kernel_rfl) (fun _ _ _ h=>h) (Or.inl ⟨by rfl,?_⟩) (KB.out _ GB.out) ?_
       ·intro w hSw;(try dsimp only at hSw);go_simp
       simp only [Act.put,sIb,sC0,sC1];refine zBA (i:=8) (oi:=⟨some 57,.indexAddr 22 (.tmp 50) (.tmp 56),0, "ref.go:161",#[⟨1,.data⟩,⟨7,.data⟩],none⟩) (v:=(.pointer (some ⟨b1,o1+t1*2,none⟩))) rfl (by kernel_rfl) (fun _ _ _ h=>h) (Or.inl ⟨by rfl,?_⟩) (KB.out _ GB.out) ?_
       ·intro w hSw;(try dsimp only at hSw);go_simp
       simp only [Act.put,sIb,sC0,sC1];refine zBA (i:=9) (oi:=⟨some 58,.load 47 (.tmp 57),47, "ref.go:161",#[⟨8,.data⟩],none⟩) (v:=(.agg #[.bool n1,.slice a1 l1 d1])) rfl (by kernel_rfl) (fun _ _ _ h=>h) (Or.inl ⟨by rfl,?_⟩) (KB.out _ GB.out) ?_
       ·intro w hSw;(try dsimp only at hSw);go_simp
       simp only [Act.put,sIb,sC0,sC1];refine zBA (i:=10) (oi:=⟨some 59,.fieldAddr 24 (.tmp 3) 2,0, "ref.go:161",#[],none⟩) (v:=(.pointer (some ⟨(w.heap.size+1),2,none⟩))) rfl (by kernel_rfl) (fun _ _ _ h=>h) (Or.inl ⟨by rfl,?_⟩) (KB.out _ GB.out) ?_
       ·intro w hSw;(try dsimp only at hSw);go_simp
       simp only [Act.put,sIb,sC0,sC1];refine zBA (i:=11) (oi:=⟨some 60,.load 22 (.tmp 59),22, "ref.go:161",#[⟨10,.data⟩],none⟩) (v:=(.slice (some ⟨b2,o2,none⟩) n4 c2)) rfl (by kernel_rfl) (fun _ _ _ h=>h) (Or.inl ⟨by rfl,?_⟩) (KB.out _ GB.out) ?_
       ·intro w hSw;(try dsimp only at hSw);go_simp
       simp only [Act.put,sIb,sC0,sC1];refine zBA (i:=12) (oi:=⟨some 61,.move (.tmp 11),3, "ref.go:161",#[],none⟩) (v:=(.int .i64 (t:Int))) rfl (by kernel_rfl) (fun _ _ _ h=>h) (Or.inl ⟨by rfl,?_⟩) (KB.out _ GB.out) ?_
       ·intro w hSw;(try dsimp only at hSw);go_simp
       simp only [Act.put,sIb,sC0,sC1];refine zBA (i:=13) (oi:=⟨some 62,.fieldAddr 24 (.tmp 3) 1,0, "ref.go:161",#[],none⟩) (v:=(.pointer (some ⟨(w.heap.size+1),1,none⟩))) rfl (by kernel_rfl) (fun _ _ _ h=>h) (Or.inl ⟨by rfl,?_⟩) (KB.out _ GB.out) ?_
       ·intro w hSw;(try dsimp only at hSw);go_simp
       simp only [Act.put,sIb,sC0,sC1];refine zBA (i:=14) (oi:=⟨some 63,.load 3 (.tmp 62),3, "ref.go:161",#[⟨13,.data⟩],none⟩) (v:=(.int .i64 (c:Int))) rfl (by kernel_rfl) (fun _ _ _ h=>h) (Or.inl ⟨by rfl,?_⟩) (KB.out _ GB.out) ?_
       ·intro w hSw;(try dsimp only at hSw);go_simp
       simp only [Act.put,sIb,sC0,sC1];refine zBA (i:=15) (oi:=⟨some 64,.binOp .mul 3 (.tmp 61) (.tmp 63) 3,3, "ref.go:161",#[⟨12,.data⟩,⟨14,.data⟩],none⟩) (v:=(.int .i64 (q2:Int))) rfl (by kernel_rfl) (fun _ _ _ h=>h) (Or.inl ⟨by rfl,?_⟩) (KB.out _ GB.out) ?_
       ·intro w hSw;(try dsimp only at hSw);go_simp
       simp only [Act.put,sIb,sC0,sC1];refine zBA (i:=16) (oi:=⟨some 65,.move (.tmp 9),3, "ref.go:161",#[],none⟩) (v:=(.int .i64 (j:Int))) rfl (by kernel_rfl) (fun _ _ _ h=>h) (Or.inl ⟨by rfl,?_⟩) (KB.out _ GB.out) ?_
       ·intro w hSw;(try dsimp only at hSw);go_simp
       simp only [Act.put,sIb,sC0,sC1];refine zBA (i:=17) (oi:=⟨some 66,.binOp .add 3 (.tmp 64) (.tmp 65) 3,3, "ref.go:161",#[⟨15,.data⟩,⟨16,.data⟩],none⟩) (v:=(.int .i64 (t2:Int))) rfl (by kernel_rfl) (fun _ _ _ h=>h) (Or.inl ⟨by rfl,?_⟩) (KB.out _ GB.out) ?_
       ·intro w hSw;(try dsimp only at hSw);go_simp
       simp only [Act.put,sIb,sC0,sC1];refine zBA (i:=18) (oi:=⟨some 67,.indexAddr 22 (.tmp 60) (.tmp 66),0, "ref.go:161",#[⟨11,.data⟩,⟨17,.data⟩],none⟩) (v:=(.pointer (some ⟨b2,o2+t2*2,none⟩))) rfl (by kernel_rfl) (fun _ _ _ h=>h) (Or.inl ⟨by rfl,?_⟩) (KB.out _ GB.out) ?_
       ·intro w hSw;(try dsimp only at hSw);go_simp
       simp only [Act.put,sIb,sC0,sC1];refine zBA (i:=19) (oi:=⟨some 68,.load 47 (.tmp 67),47, "ref.go:161",#[⟨18,.data⟩],none⟩) (v:=(.agg #[.bool n2,.slice a2 l2 d2])) rfl (by kernel_rfl) (fun _ _ _ h=>h) (Or.inl ⟨by rfl,?_⟩) (KB.out _ GB.out) ?_
       ·intro w hSw;(try dsimp only at hSw);go_simp
       simp only [Act.put,sIb,sC0,sC1];refine zBA (i:=20) (oi:=⟨some 69,.load 47 (.tmp 10),47, "ref.go:161",#[],none⟩) (v:=(.agg #[.bool ns,.slice as_ ls cs])) rfl (by kernel_rfl) (fun _ _ _ h=>h) (Or.inl ⟨by rfl,?_⟩) (KB.out _ GB.out) ?_
       ·intro w hSw;(try dsimp only at hSw);go_simp
       simp only [Act.put,sIb,sC0,sC1];refine zAA (i:=21) (o:=⟨some 70,.call { callee:=.value (.func 30),args:=#[.tmp 58,.tmp 68,.tmp 69],argTypes:=#[47,47,47] },47, "ref.go:161",#[⟨9,.data⟩,⟨19,.data⟩,⟨20,.data⟩],none⟩) (by kernel_rfl) rfl (fun K hK=>?_);go_simp;go_at_call 30;refine (HS.out _ GB.out).mono ?_;rintro e w2 ⟨rr,rfl,m1,b⟩;have lz2:=(show Below _ _ _ from b).size;replace GB:=hid (below_step GB.out b);have FI1:=hid (FI.out.step (below_step (w0:=wr) GBs.out b));have MB1:=hid (MBx.out.step (below_step (w0:=wr) GBs.out b));have DX1:=hid (DX.out.step (below_step (w0:=wr) GBs.out b));have M1:=hid (m1.mono (Nat.zero_le _));obtain ⟨nr,xr,ar,cr,rfl⟩:=m1.parts;clear m1;clear b;refine hK.out _ _ (fun _=>KB.out _ GB.out) ?_;clear hK;refine zAA (i:=22) (o:=⟨none,.store 47 (.tmp 10) (.tmp 70),0, "ref.go:161",#[⟨21,.data⟩,⟨21,.chain⟩,⟨0,.phase⟩,⟨1,.phase⟩,⟨2,.phase⟩,⟨3,.phase⟩,⟨4,.phase⟩,⟨5,.phase⟩,⟨6,.phase⟩,⟨7,.phase⟩,⟨8,.phase⟩,⟨9,.phase⟩,⟨10,.phase⟩,⟨11,.phase⟩,⟨12,.phase⟩,⟨13,.phase⟩,⟨14,.phase⟩,⟨15,.phase⟩,⟨16,.phase⟩,⟨17,.phase⟩,⟨18,.phase⟩,⟨19,.phase⟩,⟨20,.phase⟩,⟨21,.phase⟩],none⟩) (by kernel_rfl) rfl (fun K hK=>?_);have e0:=DX1.out.c0;have e1:=DX1.out.c1;have e2:=DX1.out.fz 0;have e3:=DX1.out.fz 1;go_simp;clear e0 e1 e2 e3;obtain ⟨V3,hW⟩:∃V3,((w2.setCell ⟨bx,0,none⟩ (.bool nr)).setCell ⟨bx,1,none⟩ (.slice ar xr.length cr))=V3:=⟨_,rfl⟩
       have HN1:Hid (MulK w bm g (i*c+j) m N bx (mulE m c xs ys) (mulF m c xs ys i j) (ka+kb+64) (ka+kb) (matc r m (.slice (some ⟨b1,o1,none⟩) n3 c1)) (matc m c (.slice (some ⟨b2,o2,none⟩) n4 c2)) (matc r c (.slice (some ⟨g,0,none⟩) N N)) (m-(t+1)) (.int .i64 ((t+1:Nat):Int)) V3):=by
        unfold Hid;rw [←hW];exact ⟨t+1,rfl,by omega,rfl,FI1.out.box DX1.out (by have:=HGX.out;omega) _ _,MB1.out.ty (DX1.out.ty12 _ _) (bset (bset MB1.out.2.2.2.2 (by have:=HGX.out;omega)) (by have:=HGX.out;omega)),nr,ar,xr.length,cr,DX1.out.set _ _,M1.out.box DX1.out _ _⟩
       rw [E3.out.symm,E4.out.symm] at HN1;rw [hW];clear hW;refine hK.out _ _ (fun h=>absurd h (by decide)) ?_;clear hK
       try simp only [Act.put]
       refine zDA (by kernel_rfl) ?_ _;clear HS FI DX MBx FI1 MB1 DX1 M1 GBs GB KB;go_wp2_with fail;go_roundg (m-(t+1))
       case rel=>exact HN1.out
       case measure=>exact HMM3.out
      ·have hlt3':¬(t:Int)<(m:Int):=by omega
       obtain rfl:t=m:=by omega
       have s0:=DX.out.c0;have s1:=DX.out.c1;have m2:=MBx.out.2.2.2.1.at (i:=2) rfl;have y1:=MBx.out.2.1.at (i:=1) rfl;have k1:=zJB (i:=i) (c:=c) (by omega) hc;have k3:IntKind.i64.wrap (((i*c:Nat):Int)+(j:Int))=((i*c+j:Nat):Int):=by rw [zTA] <;> omega
       obtain ⟨T1,hT1⟩:∃T1,i*c+j=T1:=⟨_,rfl⟩
       obtain ⟨q1,hq1⟩:∃q1,i*c=q1:=⟨_,rfl⟩
       have ZE:Hid (Zm 0 wr (.agg #[.bool ns,.slice as_ ls cs]) (mulE t c xs ys T1) (ka+kb+64)):=by
        unfold Hid;rw [←hT1,zEI hlt2];exact ZX.out.more (by omega)
       rw [hT1] at k3 FI hmc;rw [hq1] at k1 k3;have hmc':(T1:Int)<(N:Int):=by omega
       have k1':=k1;have k3':=k3;rw [IntKind.wrap_i64] at k1' k3';obtain ⟨m0,am,lm,cm,e0,e1,e2,e3⟩:=FI.out.cells hmc;have HN1:Hid (MulJ w bm g i c N (mulE t c xs ys) (ka+kb+64) (matc r t ata) (matc t c atb) (matc r c (.slice (some ⟨g,0,none⟩) N N)) (c-(j+1)) (.int .i64 ((j+1:Nat):Int)) ((wr.setCell ⟨g,T1*2,none⟩ (.bool ns)).setCell ⟨g,T1*2+1,none⟩ (.slice as_ ls cs))):=by
        refine ⟨j+1,rfl,by omega,rfl,?_,MBx.out.ty (FI.out.ty12 _ _) (bset (bset MBx.out.2.2.2.2 (by have:=HGW.out;omega)) (by have:=HGW.out;omega))⟩;rw [show i*c+(j+1)=T1+1 by omega];exact FI.out.put hmc ZE.out
       clear FI MBx DX ZX ZE HG hT1 hq1;go_wp2_with fail;go_roundg (c-(j+1))
       case rel=>exact HN1.out
       case measure=>exact HMM2.out
    ·have hlt2':¬(j:Int)<(c:Int):=by omega
     obtain rfl:j=c:=by omega
     have HN1:Hid (MulI w bm g r j N (mulE m j xs ys) (ka+kb+64) (matc r m ata) (matc m j atb) (matc r j (.slice (some ⟨g,0,none⟩) N N)) (r-(i+1)) (.int .i64 ((i+1:Nat):Int)) wr):=by
      refine ⟨i+1,rfl,by omega,rfl,?_,MBx.out⟩;rw [Nat.succ_mul];exact FI.out
     clear FI MBx HG;go_wp2_with fail;go_roundg (r-(i+1))
     case rel=>exact HN1.out
     case measure=>exact HMM.out
  ·have hlt':¬(i:Int)<(r:Int):=by omega
   obtain rfl:i=r:=by omega
   have m0:=MBx.out.2.2.2.1.at (i:=0) rfl;have m1:=MBx.out.2.2.2.1.at (i:=1) rfl;have m2:=MBx.out.2.2.2.1.at (i:=2) rfl;have r0:=MBx.out.2.2.1.at (i:=0) rfl;have r1:=MBx.out.2.2.1.at (i:=1) rfl;have r2:=MBx.out.2.2.1.at (i:=2) rfl;have f0:=MBx.out.2.2.1.fz 0;have f1:=MBx.out.2.2.1.fz 1;have f2:=MBx.out.2.2.1.fz 2;have FI2:=FI.out;rw [HNN.out] at FI2;obtain ⟨ps,p1,p2⟩:=FI2.done (by omega);have FIN:Hid (zyA w i c (mulL i m c xs ys) (ka+kb+64) (.returned (.tuple #[.agg #[.int .i64 (i:Int),.int .i64 (c:Int),.slice (some ⟨g,0,none⟩) N N],.int .i64 0])) (put3 wr (w.heap.size+1+1) (.int .i64 (i:Int)) (.int .i64 (c:Int)) (.slice (some ⟨g,0,none⟩) N N))):=by
    have t1:Ty 24 wr (put3 wr (w.heap.size+1+1) (.int .i64 (i:Int)) (.int .i64 (c:Int)) (.slice (some ⟨g,0,none⟩) N N)):=((Ty.set MBx.out.2.2.1).trans (Ty.set (MBx.out.2.2.1.set 0 _))).trans (Ty.set ((MBx.out.2.2.1.set 0 _).set 1 _));refine ⟨_,rfl,⟨_,ps,rfl,(p1.ty t1 (by decide)).1,?_,?_,hr,hc⟩,zVA MBx.out.2.2.2.2 (by omega) _ _ _⟩
    ·have:=(p2.ty t1 (by decide)).zcs
     unfold mulL;rw [HNN.out];exact this
    ·unfold mulL;simp
   have PG:=hid (MBx.out.2.2.1.put3 (.int .i64 (i:Int)) (.int .i64 (c:Int)) (.slice (some ⟨g,0,none⟩) N N));clear FI MBx HG p1 p2 FI2;go_wp2;exact bodyPost_ret (zWC Tryz.results9 PG.out _ (by rfl) (by rfl)) rfl FIN.out
end Go.Proofs.YtjjpodnjljfheaaGreat
