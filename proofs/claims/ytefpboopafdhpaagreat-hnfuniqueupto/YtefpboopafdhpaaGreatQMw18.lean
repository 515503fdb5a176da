import Derived.Test.YtefpboopafdhpaaGreatQGr16ToRc12
import Derived.Test.YtefpboopafdhpaaGreatQRm12ToLa18
import Derived.Test.YtefpboopafdhpaaGreatQEachM11ToRows11
import Derived.Test.YtefpboopafdhpaaGreatQRSubToR5Add
set_option maxRecDepth 100000
set_option maxHeartbeats 6400000
set_option linter.unusedVariables false
set_option linter.unusedSimpArgs false
namespace Go.Proofs.YtefpboopafdhpaaGreat
open Go.RowKit
def zyE (w wx:World) (bm g m n la kz:Nat) (Z:List Int):Prop:=ArZ wx g Z kz∧Cel wx bm 24 [.int .i64 (m:Int),.int .i64 (n:Int),.slice (some ⟨g,0,none⟩) la la]∧Cel wx (w.heap.size+1) 24 [.int .i64 0,.int .i64 0,.slice none 0 0]∧Below w.heap.size w wx
theorem zyE.step {w x y:World} {bm g m n la kz:Nat} {Z:List Int} (h:zyE w x bm g m n la kz Z) (hb:Below x.heap.size x y):zyE w y bm g m n la kz Z:=⟨h.1.step hb,h.2.1.step hb,h.2.2.1.step hb,below_step h.2.2.2 hb⟩
theorem zyE.put {w x:World} {bm g m n la kz t:Nat} {Z:List Int} {a b:Value} {z:Int} (h:zyE w x bm g m n la kz Z) (hg:w.heap.size≤g) (ht:t<Z.length) (hz:Zm 0 x (.agg #[a,b]) z kz) :
  zyE w ((x.setCell ⟨g,t*2,none⟩ a).setCell ⟨g,t*2+1,none⟩ b) bm g m n la kz (Z.set t z) :=
 have ty:=h.1.ty12 (t:=t) a b
 ⟨h.1.put ht hz,h.2.1.ty12 ty (by decide),h.2.2.1.ty12 ty (by decide),bset (bset h.2.2.2 hg) hg⟩
def zKI (w:World) (bm g m n la kz N:Nat) (X:Nat→Nat→Int) (rs:List Rs) (gk:Nat) (s:Value) (wx:World):Prop:=∃t:Nat,s=.int .i64 (t:Int)∧t≤N∧gk=N-t∧zyE w wx bm g m n la kz (zG18 m n (mvsX (zjB m (rs.take t)) X))
def zKH (w:World) (bm g m n la kz bk:Nat) (X Y:Nat→Nat→Int) (u v:Value) (gk:Nat) (s:Value) (wx:World):Prop:=∃c:Nat,s=.int .i64 (c:Int)∧c≤n∧gk=n-c∧zyE w wx bm g m n la kz (zG18 m n (cl18 X Y c))∧Duo wx bk u v
theorem Duo.off18 {w:World} {b g t:Nat} {u v x y:Value} (h:Duo w b u v) (hne:g<b):Duo ((w.setCell ⟨g,t*2,none⟩ x).setCell ⟨g,t*2+1,none⟩ y) b u v :=
 ((Below.heap_setCell _ ⟨g,t*2+1,none⟩ y b (fun q=>by simp at q;omega)).trans (Below.heap_setCell w ⟨g,t*2,none⟩ x b (fun q=>by simp at q;omega))).trans h
theorem Raws.at18 {w:World} {b off l c k:Nat} {rs:List Rs} (h:Raws w (.slice (some ⟨b,off,none⟩) l c) rs k) {t:Nat} {s:Rs} (hs:rs[t]?=some s):∃nv av lv cv,
  w.cell? ⟨b,off+t*5,none⟩=some (.int .i64 s.kind)∧w.cell? ⟨b,off+t*5+1,none⟩=some (.int .i64 s.i)∧w.cell? ⟨b,off+t*5+2,none⟩=some (.int .i64 s.j)∧w.cell? ⟨b,off+t*5+3,none⟩=some (.bool nv)∧w.cell? ⟨b,off+t*5+4,none⟩=some (.slice av lv cv)∧Zi w (.agg #[.bool nv,.slice av lv cv]) s.z k:=by
 obtain ⟨a',c',e,h2,h3⟩:=h;simp only [Value.slice.injEq] at e;obtain ⟨rfl,-,-⟩:=e;rcases h3 with rfl | ⟨b',off',e2,h4,h5⟩
 ·simp at hs
 ·simp only [Option.some.injEq,Addr.mk.injEq,and_true] at e2
  obtain ⟨rfl,rfl⟩:=e2;exact h5 t s hs
theorem Raws.some18 {w:World} {a:Option Addr} {l c k:Nat} {rs:List Rs} (h:Raws w (.slice a l c) rs k):l=rs.length∧rs.length≤1048576∧(rs=[]∨∃b off,a=some ⟨b,off,none⟩):=by
 obtain ⟨a',c',e,h2,h3⟩:=h;simp only [Value.slice.injEq] at e;obtain ⟨rfl,rfl,-⟩:=e;refine ⟨rfl,h2,?_⟩;rcases h3 with h3 | ⟨b,off,h4,-⟩
 ·exact .inl h3
 ·exact .inr ⟨b,off,h4⟩
theorem zHG {m i:Nat} {x:Int} (hm:0<m) (hm64:m≤64) (h:zJD m x=i):wrap64 ((IntKind.u64.wrap x).tmod (m:Int))=(i:Int):=by
 have h1:=Int.emod_nonneg x (show (18446744073709551616:Int)≠0 by decide);have h2:=Int.emod_nonneg (x % 18446744073709551616) (show (m:Int)≠0 by omega);have h3:=Int.emod_lt_of_pos (x % 18446744073709551616) (show (0:Int)<(m:Int) by omega);have e:(x % 18446744073709551616).tmod (m:Int)=(x % 18446744073709551616) % (m:Int):=Int.tmod_eq_emod_of_nonneg h1;unfold zJD at h;rw [IntKind.wrap_u64,e];unfold wrap64;omega
theorem mvx_neg18 {X:Nat→Nat→Int} {i j:Nat} (h:i=j) (ev ev':Bool) (k k':Int):mvX X i j ev k=mvX X i i ev' k':=by
 subst h;unfold mvX;simp
def zwH (w:World) (m n:Nat) (rs:List Rs) (zs:List Int) (kz:Nat) (e:Ending) (w':World):Prop:=∃v,e=.returned v∧Mc w' v m n (zG18 m n (mvsX (zjB m rs) (en18 n zs))) kz∧Below w.heap.size w w'
theorem moved18 {w:World} {va sv:Value} {m n k:Nat} {zs:List Int} {rs:List Rs} (h:Mx w va m n zs k) (hs:Raws w sv rs 1048576) (hk:k≤1048576) (hgr:grw rs≤pw 1048576) :
  Calls Tryz.prog 6 #[va,sv] w (zwH w m n rs zs (k+1048576)):=by
 have hzl:zs.length=m*n:=by obtain ⟨_,_,_,_,_,h,_⟩:=h;exact h
 have LT:Hid (∀t a b,((mvsX (zjB m (rs.take t)) (en18 n zs) a b).natAbs:Int)<pw (k+1048576)):=fun t a b=>mvs_lt18 h.lt hgr t a b
 have M0:=h;obtain ⟨aa,ca,rfl,hm64,hn64⟩:=h.form;obtain ⟨sa,sl,sc,rfl⟩:∃a n c,sv=.slice a n c:=by obtain ⟨a,c,h,_⟩:=hs;exact ⟨a,_,c,h⟩
 obtain ⟨hsl,hN,hsb⟩:=hs.some18;obtain ⟨la,hla⟩:∃la,m*n=la:=⟨_,rfl⟩
 obtain ⟨kz,hK⟩:∃kz,k+1048576=kz:=⟨_,rfl⟩
 rw [hK] at LT ⊢;have HK:Hid (k≤kz∧kz≤2097152):=hid (by omega);rw [hla] at M0 hzl ⊢;have ELA:=hid hla;have ZL:=hid hzl;have HSB:=hid hsb;subst hsl;obtain ⟨N,hNN⟩:∃N,rs.length=N:=⟨_,rfl⟩
 rw [hNN] at hs hN ⊢;have EN:=hid hNN;have RS:=hid hs;obtain ⟨W0,hW⟩:∃W0,(w.alloc (.cells #[.int .i64 (m:Int),.int .i64 (n:Int),.slice aa la ca] 24)).alloc mbox=W0:=⟨_,rfl⟩
 obtain ⟨b0,sz0⟩:=zSA w (.cells #[.int .i64 (m:Int),.int .i64 (n:Int),.slice aa la ca] 24) mbox;rw [hW] at b0 sz0;obtain ⟨pa,pr⟩:=zaD (o1:=[.int .i64 (m:Int),.int .i64 (n:Int),.slice aa la ca]) hW;have HT:=hid (zFF (M0.now b0) (by omega));have x0:=pa.at (i:=0) rfl;have x1:=pa.at (i:=1) rfl;have x2:=pa.at (i:=2) rfl;rw [←hW] at x0 x1 x2;have PR:=hid pr;have G0:=hid b0;have SZ:=hid sz0;have EW:=hid hW;clear h hla hzl b0 sz0 hW pa pr M0 hs hsb hNN hK hgr hk;dsimp only [matv];go_enter Tryz.func6,Tryz.ntmps6;go_wp2_with fail;rw [EW.out];clear EW x0 x1 x2;refine HT.out.mono ?_;rintro e w1 ⟨g,rfl,hg,ar,hl,-,-,b⟩;rw [ELA.out];obtain ⟨V1,hV⟩:∃V1,w1.alloc (.cells #[.int .i64 (m:Int),.int .i64 (n:Int),.slice (some ⟨g,0,none⟩) la la] 24)=V1:=⟨_,rfl⟩
 obtain ⟨bv,szv⟩:=alo1 w1 (.cells #[.int .i64 (m:Int),.int .i64 (n:Int),.slice (some ⟨g,0,none⟩) la la] 24);rw [hV] at bv szv;have dM:Cel V1 w1.heap.size 24 [.int .i64 (m:Int),.int .i64 (n:Int),.slice (some ⟨g,0,none⟩) la la]:=by rw [←hV];exact Cel.new w1 _ _
 obtain ⟨bm,hbm⟩:∃bm,w1.heap.size=bm:=⟨_,rfl⟩
 rw [hbm] at dM;have EB:=hid hbm;have HG:Hid (w.heap.size≤g):=hid (by have:=SZ.out;omega);have hz0:zs=zG18 m n (mvsX (zjB m (rs.take 0)) (en18 n zs)):=(zfF (by rw [ZL.out,ELA.out])).symm;have O0:zyE w V1 bm g m n la kz (zG18 m n (mvsX (zjB m (rs.take 0)) (en18 n zs))):=by
  refine ⟨?_,dM,(PR.out.step b).step bv,below_step (below_step G0.out b) bv⟩;have:=ar.step bv;rw [←hz0];exact this.more18 HK.out.1
 have m0:=dM.at (i:=0) rfl;have H0:Hid (zKI w bm g m n la kz N (en18 n zs) rs N (.int .i64 0) V1):=⟨0,rfl,Nat.zero_le _,by omega,O0⟩
 have EV:=hid hV;rw [←hV] at m0;clear HT b bv szv hV dM hbm hz0 O0 ar PR G0 hg hl;go_wp2_with fail;rw [EV.out,EB.out];clear EV EB m0
 go_loopg [8] N (fun gk s8 wx=>zKI w bm g m n la kz N (en18 n zs) rs gk s8 wx)
 case atStart=>exact H0.out
 case round =>
  clear H0;obtain ⟨t,rfl,htN,hgk,ho⟩:=hrel;have OB:=hid ho;have HGK:=hid hgk;clear ho hgk
  by_cases hend:¬(t<N∧0<m)
  ·skip
   have HE:Hid (zG18 m n (mvsX (zjB m (rs.take t)) (en18 n zs))=zG18 m n (mvsX (zjB m rs) (en18 n zs))):=by
    unfold Hid
    by_cases q:t<N
    ·have hm:m=0:=by omega
     subst hm;simp [zG18]
    ·rw [List.take_of_length_le (by rw [EN.out];omega)]
   have OO:=OB.out;rw [HE.out] at OO;have fm:Mc wr (.agg #[.int .i64 (m:Int),.int .i64 (n:Int),.slice (some ⟨g,0,none⟩) la la]) m n (zG18 m n (mvsX (zjB m rs) (en18 n zs))) kz:=by
    have:=OO.1.mcA (r:=m) (c:=n) (zqA _ _ _) hm64 hn64;rw [ELA.out] at this;exact this
   have FIN:Hid (zwH w m n rs zs kz (.returned (.agg #[.int .i64 (m:Int),.int .i64 (n:Int),.slice (some ⟨g,0,none⟩) la la])) (put3 wr (w.heap.size+1) (.int .i64 (m:Int)) (.int .i64 (n:Int)) (.slice (some ⟨g,0,none⟩) la la))):=⟨_,rfl,fm.wk OO.2.2.1 _ _ _,zzA OO.2.2.2 (by omega) _ _ _⟩
   have PF:=hid (OO.2.2.1.put3 (.int .i64 (m:Int)) (.int .i64 (n:Int)) (.slice (some ⟨g,0,none⟩) la la));have m0:=OO.2.1.at (i:=0) rfl;have m1:=OO.2.1.at (i:=1) rfl;have m2:=OO.2.1.at (i:=2) rfl;have r0:=OO.2.2.1.at (i:=0) rfl;have r1:=OO.2.2.1.at (i:=1) rfl;have r2:=OO.2.2.1.at (i:=2) rfl;have f0:=OO.2.2.1.fz 0;have f1:=OO.2.2.1.fz 1;have f2:=OO.2.2.1.fz 2;clear OB HE OO fm HGK
   by_cases q:t<N
   ·have hlt':(t:Int)<(N:Int):=by omega
    have hm0':¬(0:Int)<(m:Int):=by omega
    clear hend q;go_wp2;exact bodyPost_ret (znG Tryz.results6 PF.out _ (by rfl)) rfl FIN.out
   ·have hlt':¬(t:Int)<(N:Int):=by omega
    clear hend q;go_wp2;exact bodyPost_ret (znG Tryz.results6 PF.out _ (by rfl)) rfl FIN.out
  ·obtain ⟨hlt,hm0⟩:=Classical.not_not.1 hend
   clear hend;have hlt':(t:Int)<(N:Int):=by omega
   have hm0':(0:Int)<(m:Int):=by omega
   have hwt:=zYA (i:=t) (by omega);have HMM:Hid (N-(t+1)<gk):=by unfold Hid;rw [HGK.out];omega
   obtain ⟨s,hst⟩:∃s,rs[t]?=some s:=⟨_,List.getElem?_eq_getElem (by rw [EN.out];exact hlt)⟩
   obtain ⟨b,off,rfl⟩:∃b off,sa=some ⟨b,off,none⟩:=by
    rcases HSB.out with q | q
    ·subst q;simp at hst
    ·exact q
   obtain ⟨nv,av,lv,cv,s0,s1,s2,s3,s4,sz⟩:=RS.out.at18 hst;have BW:=hid OB.out.2.2.2;obtain ⟨i,hi⟩:∃i,zJD m s.i=i:=⟨_,rfl⟩
   obtain ⟨j,hj⟩:∃j,zJD m s.j=j:=⟨_,rfl⟩
   have him:i<m:=by rw [←hi];exact zND hm0 _
   have hjm:j<m:=by rw [←hj];exact zND hm0 _
   have hwi:=zHG hm0 hm64 hi;have hwj:=zHG hm0 hm64 hj;have ZK:=hid sz;have S0:=hid s0;replace s1:=cnow BW.out s1;replace s2:=cnow BW.out s2;replace s3:=cnow BW.out s3;replace s4:=cnow BW.out s4;clear HGK s0 sz BW;have mm0:=OB.out.2.1.at (i:=0) rfl;go_upto_region 8 with fail
   rw [hwi,hwj];obtain ⟨X,hX⟩:∃X,(mvsX (zjB m (rs.take t)) (en18 n zs))=X:=⟨_,rfl⟩
   obtain ⟨Y,hY⟩:∃Y,mvX X i j (zFE s.kind) s.z=Y:=⟨_,rfl⟩
   have EY:Hid (mvsX (zjB m (rs.take (t+1))) (en18 n zs)=Y):=by unfold Hid;rw [mvL_snoc18 hst,hX,hi,hj];exact hY
   have LX:Hid (∀a b,((X a b).natAbs:Int)<pw kz):=by unfold Hid;rw [←hX];exact LT.out t
   have LY:Hid (∀a b,((Y a b).natAbs:Int)<pw kz):=by unfold Hid;rw [←EY.out];exact LT.out (t+1)
   rw [hX] at OB;have EYY:=hid hY;obtain ⟨V2,hV⟩:∃V2,wr.alloc (duo (.bool nv) (.slice av lv cv))=V2:=⟨_,rfl⟩
   obtain ⟨bv,szv⟩:=alo1 wr (duo (.bool nv) (.slice av lv cv));rw [hV] at bv szv;have dK:Duo V2 wr.heap.size (.bool nv) (.slice av lv cv):=by rw [←hV];exact Duo.new wr _ _
   obtain ⟨bk,hbk⟩:∃bk,wr.heap.size=bk:=⟨_,rfl⟩
   rw [hbk] at dK;have EBK:=hid hbk;have OV:=hid (OB.out.step bv);have HBG:Hid (g<bk):=hid (by rw [←hbk];exact OB.out.1.blk);have H1:Hid (zKH w bm g m n la kz bk X Y (.bool nv) (.slice av lv cv) n (.int .i64 0) V2):=⟨0,rfl,Nat.zero_le _,rfl,by rw [cl_zero18];exact OV.out,dK⟩
   have EV:=hid hV;clear hX hY bv szv dK hbk hV OB OV s1 s2 mm0;go_wp2_with fail;rw [EV.out,EBK.out];clear EV s3 s4 hwi hwj
   go_loopg [12] n (fun gk2 s12 wx=>zKH w bm g m n la kz bk X Y (.bool nv) (.slice av lv cv) gk2 s12 wx)
   case atStart=>exact H1.out
   case round =>
    clear H1;obtain ⟨c,rfl,hcn,hg2,oc,dk⟩:=hrel;have OC:=hid oc;have DK:=hid dk;have HG2:=hid hg2;clear oc dk hg2;have mm1:=OC.out.2.1.at (i:=1) rfl
    by_cases hlc:c<n
    ·have hlc':(c:Int)<(n:Int):=by omega
     have hwc:=zYA (i:=c) (by omega);have HM2:Hid (n-(c+1)<gk):=by unfold Hid;rw [HG2.out];omega
     clear HG2;have hm0:=zsB (i:=i) (c:=n) (by omega) hn64;have hm1:=zsB (i:=j) (c:=n) (by omega) hn64;have hil:=zoC him hlc;have hjl:=zoC hjm hlc;rw [ELA.out] at hil hjl;have CAI:Hid ((zG18 m n (cl18 X Y c)).getD (i*n+c) 0=X i c):=zCH him hlc;have CAJ:Hid ((zG18 m n (cl18 X Y c)).getD (j*n+c) 0=X j c):=zCH hjm hlc;have CNG:Hid (i=j→(zG18 m n (cl18 X Y c)).set (i*n+c) (- X i c)=zG18 m n (cl18 X Y (c+1))):=fun e=>by
      rw [←EYY.out,mvx_neg18 e (zFE s.kind) true s.z 0];exact cl_neg18 him hlc true 0
     have CSW:Hid (i≠j→zFE s.kind=true→((zG18 m n (cl18 X Y c)).set (i*n+c) (X j c)).set (j*n+c) (X i c)=zG18 m n (cl18 X Y (c+1))):=fun e q=>by
      rw [←EYY.out,q];exact cl_swp18 him hjm hlc e s.z
     have CAD:Hid (i≠j→zFE s.kind=false→(zG18 m n (cl18 X Y c)).set (i*n+c) (s.z*X j c+X i c)=zG18 m n (cl18 X Y (c+1))):=fun e q=>by
      rw [←EYY.out,q];exact cl_add18 him hlc e s.z
     have YI:Hid (i≠j→zFE s.kind=false→((s.z*X j c+X i c).natAbs:Int)<pw kz):=fun e q=>by
      have h1:=LY.out i c;have h2:Y i c=s.z*X j c+X i c:=by
       rw [←EYY.out,q];unfold mvX;rw [if_neg e,if_neg (by decide)]
       show (if i=i then X i c - -s.z*X j c else X i c)=_
       rw [if_pos rfl,Int.neg_mul,Int.sub_neg,Int.add_comm]
      rw [h2] at h1;exact h1
     obtain ⟨Z,hZ⟩:∃Z,zG18 m n (cl18 X Y c)=Z:=⟨_,rfl⟩
     have ZLN:Hid (Z.length=la):=by unfold Hid;rw [←hZ,zqA,ELA.out]
     rw [hZ] at CAI CAJ CNG CSW CAD OC;obtain ⟨pi,hpi⟩:∃pi,i*n=pi:=⟨_,rfl⟩
     obtain ⟨pj,hpj⟩:∃pj,j*n=pj:=⟨_,rfl⟩
     rw [hpi] at hm0 hil CAI CNG CSW CAD;rw [hpj] at hm1 hjl CAJ CSW;obtain ⟨p,hp⟩:∃p,pi+c=p:=⟨_,rfl⟩
     obtain ⟨q,hq⟩:∃q,pj+c=q:=⟨_,rfl⟩
     rw [hp] at hil CAI CNG CSW CAD;rw [hq] at hjl CAJ CSW;have la64:la≤64*64:=by rw [←ELA.out];exact Nat.mul_le_mul hm64 hn64
     have hwp:IntKind.i64.wrap ((pi:Int)+(c:Int))=(p:Int):=by rw [zWA] <;> omega
     have hwq:IntKind.i64.wrap ((pj:Int)+(c:Int))=(q:Int):=by rw [zWA] <;> omega
     have hpl:(p:Int)<(la:Int):=by omega
     have hql:(q:Int)<(la:Int):=by omega
     have HPL:Hid (p<Z.length):=by unfold Hid;rw [ZLN.out];exact hil
     have HQL:Hid (q<Z.length):=by unfold Hid;rw [ZLN.out];exact hjl
     clear hpi hpj hp hq hZ;obtain ⟨n1,a1,l1,c1,x0,x1,xf0,xf1,z1⟩:=OC.out.1.cells (j:=p) HPL.out;obtain ⟨n2,a2,l2,c2,y0,y1,yf0,yf1,z2⟩:=OC.out.1.cells (j:=q) HQL.out;rw [CAI.out] at z1;rw [CAJ.out] at z2;have mm2:=OC.out.2.1.at (i:=2) rfl;obtain ⟨V3,hV3⟩:∃V3,(wr.alloc (duo (.bool n1) (.slice a1 l1 c1))).alloc (duo (.bool n2) (.slice a2 l2 c2))=V3:=⟨_,rfl⟩
     obtain ⟨b3,sz3⟩:=zSA wr (duo (.bool n1) (.slice a1 l1 c1)) (duo (.bool n2) (.slice a2 l2 c2));rw [hV3] at b3 sz3;have bx1:=(alo1 wr (duo (.bool n1) (.slice a1 l1 c1))).1;have dX:Duo V3 wr.heap.size (.bool n1) (.slice a1 l1 c1):=by rw [←hV3];exact zCA (Duo.new wr _ _) _
     have dY:Duo V3 (wr.heap.size+1) (.bool n2) (.slice a2 l2 c2):=by
      rw [←hV3];have:=Duo.new (wr.alloc (duo (.bool n1) (.slice a1 l1 c1))) (.bool n2) (.slice a2 l2 c2)
      simpa using this
     have y0':=cnow bx1 y0;have y1':=cnow bx1 y1;have mm1':=cnow bx1 mm1;have mm2':=cnow bx1 mm2;have DX:=hid dX;have DY:=hid dY;have O3:=hid (OC.out.step b3);have K3:=hid (DK.out.step b3);have Z1:=hid (z1.now b3);have Z2:=hid (z2.now b3);have HXG:Hid (g<wr.heap.size):=hid OC.out.1.blk;have EV3:=hid hV3;clear bx1 dX dY b3 sz3 hV3 z1 z2 xf0 xf1 yf0 yf1 OC DK CAI CAJ;go_upto_region 15 with fail
     rw [EV3.out];clear EV3 x0 x1 y0 y1 y0' y1' mm1' mm2' mm1 mm2;have e0:=O3.out.2.1.at (i:=1) rfl;have e1:=O3.out.2.1.at (i:=2) rfl
     by_cases hij:i=j
     ·subst hij
      have qij:((i:Int) == (i:Int))=true:=by simp
      have x0:=DX.out.c0;have x1:=DX.out.c1;go_upto_region 16 with fail
      have KB:Hid (∀w',Below V3.heap.size V3 w'→w'.cell? ⟨bm,1,none⟩=some (.int .i64 (n:Int))∧w'.cell? ⟨bm,2,none⟩=some (.slice (some ⟨g,0,none⟩) la la)∧w'.cell? ⟨wr.heap.size,0,none⟩=some (.bool n1)∧w'.cell? ⟨wr.heap.size,1,none⟩=some (.slice a1 l1 c1)):=fun w' h=>⟨cnow h e0,cnow h e1,cnow h x0,cnow h x1⟩
      refine zFA (fun w'=>w'.cell? ⟨bm,1,none⟩=some (.int .i64 (n:Int))∧w'.cell? ⟨bm,2,none⟩=some (.slice (some ⟨g,0,none⟩) la la)∧w'.cell? ⟨wr.heap.size,0,none⟩=some (.bool n1)∧w'.cell? ⟨wr.heap.size,1,none⟩=some (.slice a1 l1 c1)) 11 (by kernel_rfl) ?_;obtain ⟨D941,hD⟩:∃D941,V3.drew=D941:=⟨_,rfl⟩
      have GB:Hid (Below V3.heap.size V3 D941):=by unfold Hid;rw [←hD];exact (Below.refl _ _).drew
      rw [hD];clear hD;refine zIA [(0,(.pointer (some ⟨bm,2,none⟩))),(1,(.slice (some ⟨g,0,none⟩) la la)),(2,(.int .i64 (i:Int))),(3,(.pointer (some ⟨bm,1,none⟩))),(4,(.int .i64 (n:Int))),(5,(.int .i64 (pi:Int))),(6,(.int .i64 (c:Int))),(7,(.int .i64 (p:Int))),(8,(.agg #[.bool n1,.slice a1 l1 c1]))] 9 ?_ (KB.out _ GB.out) ?_
      ·simp only [zVA,gA9,g09,g19,Act.put,sI9,s09,s19]
       (repeat' (first | exact trivial | refine And.intro (Or.inl ⟨by rfl,?_⟩) ?_)) <;> (intro w hSw;(try dsimp only at hSw);go_simp)
      simp only [actV,gA9,g09,g19,Act.put,sI9,s09,s19];refine zAA (i:=9) (o:=⟨some 109,.call { callee:=.value (.func 13),args:=#[.tmp 108],argTypes:=#[41] },41, "plain.go:122",#[⟨8,.data⟩],none⟩) (by kernel_rfl) rfl (fun K hK=>?_);go_simp;go_at_call 13;refine (rneg18 (Z1.out.now GB.out).zi (by have:=HK.out;omega)).mono ?_;rintro e w942 ⟨rr,rfl,m1,b⟩;have lz942:=(show Below _ _ _ from b).size;replace GB:=hid (below_step GB.out b);have O4:=hid (O3.out.step GB.out);have K4:=hid (K3.out.step GB.out);have M4:=hid ((m1.mono (Nat.zero_le _)).fit (by rw [Int.natAbs_neg];exact LX.out i c));obtain ⟨nr,xr,ar,cr,rfl⟩:=m1.parts;clear m1;clear b;refine hK.out _ _ (fun _=>KB.out _ GB.out) ?_;clear hK;refine zIA [(10,(.pointer (some ⟨g,p*2,none⟩)))] 1 ?_ (KB.out _ GB.out) ?_
      ·simp only [zVA,gA9,g09,g19,Act.put,sI9,s09,s19]
       (repeat' (first | exact trivial | refine And.intro (Or.inl ⟨by rfl,?_⟩) ?_)) <;> (intro w hSw;(try dsimp only at hSw);go_simp)
      simp only [actV,gA9,g09,g19,Act.put,sI9,s09,s19];refine zAA (i:=11) (o:=⟨none,.store 41 (.tmp 110) (.tmp 109),0, "plain.go:122",#[⟨10,.data⟩,⟨9,.data⟩,⟨9,.chain⟩,⟨0,.phase⟩,⟨1,.phase⟩,⟨2,.phase⟩,⟨3,.phase⟩,⟨4,.phase⟩,⟨5,.phase⟩,⟨6,.phase⟩,⟨7,.phase⟩,⟨8,.phase⟩,⟨9,.phase⟩],none⟩) (by kernel_rfl) rfl (fun K hK=>?_);obtain ⟨u1,u2,u3,u4,f0,f1,f2,f3,-⟩:=O4.out.1.cells (j:=p) HPL.out;go_simp;clear f0 f1 f2 f3;obtain ⟨V943,hW⟩:∃V943,((w942.setCell ⟨g,p*2,none⟩ (.bool nr)).setCell ⟨g,p*2+1,none⟩ (.slice ar xr.length cr))=V943:=⟨_,rfl⟩
      have FIN:Hid (zKH w bm g m n la kz bk X Y (.bool nv) (.slice av lv cv) (n-(c+1)) (.int .i64 ((c+1:Nat):Int)) V943):=by
       unfold Hid;have o5:=O4.out.put (t:=p) HG.out HPL.out M4.out;have k5:=K4.out.off18 (t:=p) (x:=.bool nr) (y:=.slice ar xr.length cr) HBG.out;rw [CNG.out rfl] at o5;rw [←hW];exact ⟨c+1,rfl,by omega,rfl,o5,k5⟩
      rw [hW];clear hW;refine hK.out _ _ (fun h=>absurd h (by decide)) ?_;clear hK
      try simp only [Act.put]
      refine zDA (by kernel_rfl) ?_ _;clear KB GB O4 K4 M4 O3 K3 Z1 Z2 DX DY;go_wp2_with fail;go_roundg (n-(c+1))
      case rel=>exact FIN.out
      case measure=>exact HM2.out
     ·have qij:((i:Int) == (j:Int))=false:=by simp;omega
      by_cases hev:s.kind.tmod 2=0
      ·have hev2:zFE s.kind=true:=decide_eq_true hev
       have qev:(s.kind.tmod 2 == 0)=true:=by simp [hev]
       obtain ⟨r1,r2,r3,r4,f0,f1,f2,f3,-⟩:=O3.out.1.cells (j:=p) HPL.out;have y0:=DY.out.c0;have y1:=DY.out.c1;have s0:=cnow O3.out.2.2.2 S0.out;have ty4:=O3.out.1.ty12 (t:=p) (.bool n2) (.slice a2 l2 c2);have o4:=O3.out.put (t:=p) HG.out HPL.out Z2.out;obtain ⟨V4,hV4⟩:∃V4,((V3.setCell ⟨g,p*2,none⟩ (.bool n2)).setCell ⟨g,p*2+1,none⟩ (.slice a2 l2 c2))=V4:=⟨_,rfl⟩
       have k4:=K3.out.off18 (t:=p) (x:=.bool n2) (y:=.slice a2 l2 c2) HBG.out;have dx4:=DX.out.off18 (t:=p) (x:=.bool n2) (y:=.slice a2 l2 c2) HXG.out;have z4:=Z1.out.ty ty4 (by decide);rw [hV4] at o4 k4 dx4 z4;have O4:=hid o4;have K4:=hid k4;have X4:=hid dx4;have Z4:=hid z4;have EV4:=hid hV4;clear o4 k4 dx4 z4 hV4 ty4 O3 K3 DX DY Z1 Z2;go_upto_region 19 with fail
       rw [EV4.out];clear EV4 f0 f1 f2 f3 y0 y1 e0 e1 s0;have e0:=O4.out.2.1.at (i:=1) rfl;have e1:=O4.out.2.1.at (i:=2) rfl;obtain ⟨r1,r2,r3,r4,f0,f1,f2,f3,-⟩:=O4.out.1.cells (j:=q) (by rw [List.length_set];exact HQL.out);have x0:=X4.out.c0;have x1:=X4.out.c1;have ty5:=O4.out.1.ty12 (t:=q) (.bool n1) (.slice a1 l1 c1);have o5:=O4.out.put (t:=q) HG.out (by rw [List.length_set];exact HQL.out) Z4.out;have k5:=K4.out.off18 (t:=q) (x:=.bool n1) (y:=.slice a1 l1 c1) HBG.out;rw [CSW.out hij hev2] at o5;have FIN:Hid (zKH w bm g m n la kz bk X Y (.bool nv) (.slice av lv cv) (n-(c+1)) (.int .i64 ((c+1:Nat):Int)) ((V4.setCell ⟨g,q*2,none⟩ (.bool n1)).setCell ⟨g,q*2+1,none⟩ (.slice a1 l1 c1))):=⟨c+1,rfl,by omega,rfl,o5,k5⟩
       clear ty5 o5 k5 O4 K4 X4 Z4;go_wp2_with fail;go_roundg (n-(c+1))
       case rel=>exact FIN.out
       case measure=>exact HM2.out
      ·have hev2:zFE s.kind=false:=decide_eq_false hev
       have qev:(s.kind.tmod 2 == 0)=false:=by simp [hev]
       have s0:=cnow O3.out.2.2.2 S0.out;go_upto_region 14 with fail
       clear s0;have x0:=DX.out.c0;have x1:=DX.out.c1;have y0:=DY.out.c0;have y1:=DY.out.c1;have k0:=K3.out.c0;have k1:=K3.out.c1;have ZK3:=hid (ZK.out.now O3.out.2.2.2);have KB:Hid (∀w',Below V3.heap.size V3 w'→w'.cell? ⟨bm,1,none⟩=some (.int .i64 (n:Int))∧w'.cell? ⟨bm,2,none⟩=some (.slice (some ⟨g,0,none⟩) la la)∧w'.cell? ⟨wr.heap.size,0,none⟩=some (.bool n1)∧w'.cell? ⟨wr.heap.size,1,none⟩=some (.slice a1 l1 c1)∧w'.cell? ⟨wr.heap.size+1,0,none⟩=some (.bool n2)∧w'.cell? ⟨wr.heap.size+1,1,none⟩=some (.slice a2 l2 c2)∧w'.cell? ⟨bk,0,none⟩=some (.bool nv)∧w'.cell? ⟨bk,1,none⟩=some (.slice av lv cv)):=fun w' h=>⟨cnow h e0,cnow h e1,cnow h x0,cnow h x1,cnow h y0,cnow h y1,cnow h k0,cnow h k1⟩
       refine zFA (fun w'=>w'.cell? ⟨bm,1,none⟩=some (.int .i64 (n:Int))∧w'.cell? ⟨bm,2,none⟩=some (.slice (some ⟨g,0,none⟩) la la)∧w'.cell? ⟨wr.heap.size,0,none⟩=some (.bool n1)∧w'.cell? ⟨wr.heap.size,1,none⟩=some (.slice a1 l1 c1)∧w'.cell? ⟨wr.heap.size+1,0,none⟩=some (.bool n2)∧w'.cell? ⟨wr.heap.size+1,1,none⟩=some (.slice a2 l2 c2)∧w'.cell? ⟨bk,0,none⟩=some (.bool nv)∧w'.cell? ⟨bk,1,none⟩=some (.slice av lv cv)) 13 (by kernel_rfl) ?_;obtain ⟨D861,hD⟩:∃D861,V3.drew=D861:=⟨_,rfl⟩
       have GB:Hid (Below V3.heap.size V3 D861):=by unfold Hid;rw [←hD];exact (Below.refl _ _).drew
       rw [hD];clear hD;refine zIA [(0,(.pointer (some ⟨bm,2,none⟩))),(1,(.slice (some ⟨g,0,none⟩) la la)),(2,(.int .i64 (i:Int))),(3,(.pointer (some ⟨bm,1,none⟩))),(4,(.int .i64 (n:Int))),(5,(.int .i64 (pi:Int))),(6,(.int .i64 (c:Int))),(7,(.int .i64 (p:Int))),(8,(.agg #[.bool nv,.slice av lv cv])),(9,(.agg #[.bool n2,.slice a2 l2 c2])),(10,(.agg #[.bool n1,.slice a1 l1 c1]))] 11 ?_ (KB.out _ GB.out) ?_
       ·simp only [zVA,gA9,g09,g19,Act.put,sI9,s09,s19]
        (repeat' (first | exact trivial | refine And.intro (Or.inl ⟨by rfl,?_⟩) ?_)) <;> (intro w hSw;(try dsimp only at hSw);go_simp)
       simp only [actV,gA9,g09,g19,Act.put,sI9,s09,s19];refine zAA (i:=11) (o:=⟨some 94,.call { callee:=.value (.func 14),args:=#[.tmp 91,.tmp 92,.tmp 93],argTypes:=#[41,41,41] },41, "plain.go:127",#[⟨8,.data⟩,⟨9,.data⟩,⟨10,.data⟩],none⟩) (by kernel_rfl) rfl (fun K hK=>?_);go_simp;go_at_call 14;refine (rmulAdd_z (ZK3.out.now GB.out) (Z2.out.now GB.out).zi (Z1.out.now GB.out).zi (by have:=HK.out;omega) (by have:=HK.out;omega)).mono ?_;rintro e w862 ⟨rr,rfl,m1,b⟩;have lz862:=(show Below _ _ _ from b).size;replace GB:=hid (below_step GB.out b);have O4:=hid (O3.out.step GB.out);have K4:=hid (K3.out.step GB.out);have M4:=hid ((m1.mono (Nat.zero_le _)).fit (YI.out hij hev2));obtain ⟨nr,xr,ar,cr,rfl⟩:=m1.parts;clear m1;clear b;refine hK.out _ _ (fun _=>KB.out _ GB.out) ?_;clear hK;refine zIA [(12,(.pointer (some ⟨g,p*2,none⟩)))] 1 ?_ (KB.out _ GB.out) ?_
       ·simp only [zVA,gA9,g09,g19,Act.put,sI9,s09,s19]
        (repeat' (first | exact trivial | refine And.intro (Or.inl ⟨by rfl,?_⟩) ?_)) <;> (intro w hSw;(try dsimp only at hSw);go_simp)
       simp only [actV,gA9,g09,g19,Act.put,sI9,s09,s19];refine zAA (i:=13) (o:=⟨none,.store 41 (.tmp 95) (.tmp 94),0, "plain.go:127",#[⟨12,.data⟩,⟨11,.data⟩,⟨11,.chain⟩,⟨0,.phase⟩,⟨1,.phase⟩,⟨2,.phase⟩,⟨3,.phase⟩,⟨4,.phase⟩,⟨5,.phase⟩,⟨6,.phase⟩,⟨7,.phase⟩,⟨8,.phase⟩,⟨9,.phase⟩,⟨10,.phase⟩,⟨11,.phase⟩],none⟩) (by kernel_rfl) rfl (fun K hK=>?_);obtain ⟨u1,u2,u3,u4,f0,f1,f2,f3,-⟩:=O4.out.1.cells (j:=p) HPL.out;go_simp;clear f0 f1 f2 f3;obtain ⟨V863,hW⟩:∃V863,((w862.setCell ⟨g,p*2,none⟩ (.bool nr)).setCell ⟨g,p*2+1,none⟩ (.slice ar xr.length cr))=V863:=⟨_,rfl⟩
       have FIN:Hid (zKH w bm g m n la kz bk X Y (.bool nv) (.slice av lv cv) (n-(c+1)) (.int .i64 ((c+1:Nat):Int)) V863):=by
        unfold Hid;have o5:=O4.out.put (t:=p) HG.out HPL.out M4.out;have k5:=K4.out.off18 (t:=p) (x:=.bool nr) (y:=.slice ar xr.length cr) HBG.out;rw [CAD.out hij hev2] at o5;rw [←hW];exact ⟨c+1,rfl,by omega,rfl,o5,k5⟩
       rw [hW];clear hW;refine hK.out _ _ (fun h=>absurd h (by decide)) ?_;clear hK
       try simp only [Act.put]
       refine zDA (by kernel_rfl) ?_ _;clear KB GB O4 K4 M4 O3 K3 Z1 Z2 DX DY;go_wp2_with fail;go_roundg (n-(c+1))
       case rel=>exact FIN.out
       case measure=>exact HM2.out
    ·have hlc':¬(c:Int)<(n:Int):=by omega
     obtain rfl:c=n:=by omega
     have FIN:Hid (zKI w bm g m c la kz N (en18 c zs) rs (N-(t+1)) (.int .i64 ((t+1:Nat):Int)) wr):=⟨t+1,rfl,by omega,rfl,by
      have o5:=OC.out;rw [cl_all18,←EY.out] at o5;exact o5⟩
     clear OC DK HG2;go_wp2_with fail;go_roundg (N-(t+1))
     case rel=>exact FIN.out
     case measure=>exact HMM.out
end Go.Proofs.YtefpboopafdhpaaGreat
