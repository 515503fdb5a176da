/-
 QRm12ToLa18: Rm12, Tn12, TailL, Vm12, Mi12, Mk12, La18, joined.
-/
import Derived.Test.YtefpboopafdhpaaGreatQGr16ToRc12
import Derived.Test.YtefpboopafdhpaaGreatQRSubToR5Add
import Derived.Test.YtefpboopafdhpaaGreatQFil9ToRowsOf9
import Derived.Test.YtefpboopafdhpaaGreatQUf18ToAdd11
import Derived.StillTail
import Derived.Deep.Cut
import Derived.Test.YtefpboopafdhpaaGreatQR5OnesToRPow

set_option maxRecDepth 100000
set_option maxHeartbeats 6400000
set_option linter.unusedVariables false
set_option linter.unusedSimpArgs false
namespace Go.Proofs.YtefpboopafdhpaaGreat
open Go.RowKit
theorem Cel.ty12 {T T':TypeId} {w w':World} {b:Nat} {L:List Value} (h:Cel w b T L) (ht:Ty T' w w') (hT:T≠T'):Cel w' b T L:=ht.2 b _ _ _ h hT
theorem Arr.ty12 {w:World} {g t:Nat} {ps:List (Value×Value)} (h:Arr w g ps) (x y:Value):Ty 41 w ((w.setCell ⟨g,t*2,none⟩ x).setCell ⟨g,t*2+1,none⟩ y) :=
 (Ty.set h.1).trans (Ty.set (h.1.set _ _))
def MB (w wx:World) (bm:Nat) (A0 B0 M0:List Value):Prop:=Cel wx w.heap.size 24 A0∧Cel wx (w.heap.size+1) 24 B0∧Cel wx (w.heap.size+1+1) 24 [.int .i64 0,.int .i64 0,.slice none 0 0]∧Cel wx bm 24 M0∧Below w.heap.size w wx
theorem ziE {r c i j:Nat} (hi:i<r) (hj:j<c):i*c+j<r*c:=by
 have:(i+1)*c≤r*c:=Nat.mul_le_mul_right c hi;rw [Nat.succ_mul] at this;omega
theorem Prs.isI12 {B:Nat} {w:World} {v:Value} {ps:List (Value×Value)} {zs:List Int} {k t:Nat} (h:Prs B w v ps) (hz:Zis w ps zs k) (ht:t<zs.length):∃b off cap n a l c,v=.slice (some ⟨b,off,none⟩) zs.length cap∧w.cell? ⟨b,off+t*2,none⟩=some (.bool n)∧w.cell? ⟨b,off+t*2+1,none⟩=some (.slice a l c)∧Zi w (.agg #[.bool n,.slice a l c]) (zs.getD t 0) k:=by
 obtain ⟨a0,c0,rfl,h2,h3,h4,h5⟩:=h.form;obtain ⟨b,off,rfl,-⟩:=h5 (fun e=>by have:=hz.1;rw [e] at this;simp at this;omega);have hp:ps[t]?=some (ps[t]'(by have:=hz.1;omega)):=List.getElem?_eq_getElem (by have:=hz.1;omega);have hq:zs[t]?=some (zs[t]):=List.getElem?_eq_getElem ht;have h6:=hz.2 t _ _ hp hq;obtain ⟨n,a,l,c,e⟩:=h6.isI;have h7:=h.at hp;have e':ps[t]'(by have:=hz.1;omega)=(.bool n,.slice a l c):=e;rw [e'] at h6 h7;refine ⟨b,off,c0,n,a,l,c,by rw [hz.1],h7.1,h7.2,?_⟩;have:zs.getD t 0=zs[t]:=by simp [ht]
 rw [this];exact h6
def ArZ (wx:World) (g:Nat) (zs:List Int) (k:Nat):Prop:=∃ps,Arr wx g ps∧Zms wx ps zs k
theorem zBF (w:World) (k:Nat):Zm 0 w (.agg #[.bool false,.slice none 0 0]) 0 k:=⟨false,[],none,0,rfl,Mine.nil _ _,⟨WF.nil,rfl⟩,fun _=>rfl,by simp [iv,val],Nat.zero_le _⟩
theorem ArZ.start {w:World} {g n:Nat} (h:Arr w g (List.replicate n zAF)) (k:Nat):ArZ w g (List.replicate n 0) k:=by
 refine ⟨_,h,by simp,fun j p z hp hz=>?_⟩;rw [List.eq_of_mem_replicate (List.mem_of_getElem? hp),List.eq_of_mem_replicate (List.mem_of_getElem? hz)];exact zBF w k
theorem ArZ.step {w w':World} {g:Nat} {zs:List Int} {k:Nat} (h:ArZ w g zs k) (hb:Below w.heap.size w w'):ArZ w' g zs k:=by
 obtain ⟨ps,h1,h2⟩:=h;exact ⟨ps,h1.step hb,h2.now hb⟩
theorem ArZ.blk {w:World} {g:Nat} {zs:List Int} {k:Nat} (h:ArZ w g zs k):g<w.heap.size:=by
 obtain ⟨ps,h1,h2⟩:=h;exact h1.1.blk
theorem ArZ.ty12 {w:World} {g t:Nat} {zs:List Int} {k:Nat} (h:ArZ w g zs k) (x y:Value):Ty 41 w ((w.setCell ⟨g,t*2,none⟩ x).setCell ⟨g,t*2+1,none⟩ y):=by
 obtain ⟨ps,h1,h2⟩:=h;exact h1.ty12 x y
theorem ArZ.put {w:World} {g t:Nat} {zs:List Int} {k:Nat} {x y:Value} {z:Int} (h:ArZ w g zs k) (ht:t<zs.length) (hz:Zm 0 w (.agg #[x,y]) z k):ArZ ((w.setCell ⟨g,t*2,none⟩ x).setCell ⟨g,t*2+1,none⟩ y) g (zs.set t z) k:=by
 have hty:=h.ty12 (t:=t) x y;obtain ⟨ps,h1,h2⟩:=h;refine ⟨ps.set t (x,y),h1.put (by rw [h2.1];exact ht) hz.zi.isI,by simp [h2.1],fun j p q hp hq=>?_⟩
 by_cases e:j=t
 ·subst e
  rw [List.getElem?_set_self (by rw [h2.1];exact ht),Option.some.injEq] at hp;rw [List.getElem?_set_self ht,Option.some.injEq] at hq;subst hp;subst hq;exact hz.ty hty (by decide)
 ·rw [List.getElem?_set_ne (by omega)] at hp hq
  exact (h2.2 j p q hp hq).ty hty (by decide)
theorem ArZ.cells {w:World} {g j:Nat} {zs:List Int} {k:Nat} (h:ArZ w g zs k) (hj:j<zs.length):∃m a l c,w.cell? ⟨g,j*2,none⟩=some (.bool m)∧w.cell? ⟨g,j*2+1,none⟩=some (.slice a l c)∧w.frozen? ⟨g,j*2,none⟩=false∧w.frozen? ⟨g,j*2+1,none⟩=false∧Zm 0 w (.agg #[.bool m,.slice a l c]) (zs.getD j 0) k:=by
 obtain ⟨ps,h1,h2⟩:=h;have hl:=h2.1;have hp:ps[j]?=some (ps[j]'(by omega)):=List.getElem?_eq_getElem (by omega);have hq:zs[j]?=some (zs[j]):=List.getElem?_eq_getElem hj;obtain ⟨m,a,l,c,e⟩:=h1.2 _ (List.getElem_mem (l:=ps) (n:=j) (by omega));have q:=h1.at hp;have z:=h2.2 j _ _ hp hq;rw [e] at q z;have:zs.getD j 0=zs[j]:=by simp [hj]
 rw [this];exact ⟨m,a,l,c,q.1,q.2,h1.1.fz _,h1.1.fz _,z⟩
theorem ArZ.done {w:World} {g:Nat} {zs:List Int} {k:Nat} (h:ArZ w g zs k) (hn:zs.length≤1048576):∃ps,PrsT w (.slice (some ⟨g,0,none⟩) zs.length zs.length) ps∧Zms w ps zs k:=by
 obtain ⟨ps,h1,h2⟩:=h;refine ⟨ps,?_,h2⟩;rw [←h2.1];exact h1.prsT (by rw [h2.1];exact hn)
def okV (md:Region.Mode) (ops:Array Oper) (n:Nat):Array Bool→List (Nat×Value)→Bool
 | _,[]=>true
 | l,(i,_) :: r=>(Region.noSelect ops && Region.free md ops l i && (Region.ready md ops l).contains i && Region.sinkB md ops n && Region.chainB md ops n && decide (n<ops.size) && decide (i<n) && zTH md ops n l) && okV md ops n (l.setIfInBounds i true) r
def lisV:Array Bool→List (Nat×Value)→Array Bool
 | l,[]=>l
 | l,(i,_) :: r=>lisV (l.setIfInBounds i true) r
def actV (ops:Array Oper):Act→List (Nat×Value)→Act
 | a,[]=>a
 | a,(i,v) :: r=>match ops[i]? with
  | some o=>actV ops (a.put o.dst v) r
  | none=>a
def zVA (P:Program) (ops:Array Oper) (S:World→Prop):Act→List (Nat×Value)→Prop
 | _,[]=>True
 | a,(i,v) :: r=>match ops[i]? with
  | some o=>YieldsIf P ops S o v a∧zVA P ops S (a.put o.dst v) r
  | none=>False
section
variable {P:Program} {ops:Array Oper} {Q:Exit→Act→World→Prop} {md:Region.Mode} {S:World→Prop} {n:Nat}
theorem zED (hQ:∀c d v a w,Q (.panic c) (a.put d v) w→Q (.panic c) a w):∀(vs:List (Nat×Value)) (fuel:Nat) (listed:Array Bool) (a:Act) (w:World),okV md ops n listed vs=true→zVA P ops S a vs→S w→ztA P md ops Q S n fuel (lisV listed vs) (actV ops a vs) w→ztA P md ops Q S n (fuel+vs.length) listed a w
 | [],fuel,listed,a,w,_,_,_,h=>h
 | (i,v) :: r,fuel,listed,a,w,hok,hy,hS,h=>by
  rw [okV,Bool.and_eq_true] at hok;cases e:ops[i]? with
  | none=>simp only [zVA,e] at hy
  | some o =>
   simp only [zVA,e] at hy;simp only [actV,e,lisV] at h;exact zBA (fuel:=fuel+r.length) e hok.1 (fun c a w hq=>hQ c _ _ a w hq) hy.1 hS (zED hQ r fuel _ _ w hok.2 hy.2 hS h)
theorem zIA {fuel:Nat} {listed:Array Bool} {a:Act} {w:World} (vs:List (Nat×Value)) (m:Nat) (hy:zVA P ops S a vs) (hS:S w)
  (h:ztA P md ops Q S n fuel (lisV listed vs) (actV ops a vs) w) (hm:vs.length=m:=by rfl) (hok:okV md ops n listed vs=true:=by kernel_rfl) (hQ:∀c d v a w,Q (.panic c) (a.put d v) w→Q (.panic c) a w:=by (intro _ d _ _ _ h;cases d <;> exact h)):ztA P md ops Q S n (fuel+m) listed a w:=by
 subst hm;exact zED hQ vs fuel listed a w hok hy hS h
end
theorem sI9 {α:Type _} (l:List α) (i:Nat) (a:α):l.toArray.setIfInBounds i a=(l.set i a).toArray:=List.setIfInBounds_toArray l i a
theorem s09 {α:Type _} {a b:α} {l:List α}:(a :: l).set 0 b=b :: l:=List.set_cons_zero
theorem s19 {α:Type _} {a b:α} {n:Nat} {l:List α}:(a :: l).set (n+1) b=a :: l.set n b:=List.set_cons_succ
theorem g09 {α:Type _} {a:α} {l:List α}:(a :: l)[0]?=some a:=List.getElem?_cons_zero
theorem g19 {α:Type _} {a:α} {n:Nat} {l:List α}:(a :: l)[n+1]?=l[n]?:=List.getElem?_cons_succ
theorem gA9 {α:Type _} {l:List α} {n:Nat}:l.toArray[n]?=l[n]?:=List.getElem?_toArray

end Go.Proofs.YtefpboopafdhpaaGreat
namespace Go.Proofs.YtefpboopafdhpaaGreat
def mix (ys xs:List Int) (i:Nat):List Int:=(List.range xs.length).map fun j=>if j<i then ys.getD j 0 else xs.getD j 0
theorem zwC {ys xs:List Int} (i:Nat):(mix ys xs i).length=xs.length:=by simp [mix]
theorem mix_zero (ys xs:List Int):mix ys xs 0=xs:=List.ext_getElem (zwC 0) fun j h1 h2=>by simp [mix,h2]
theorem mix_all {ys xs:List Int} (h:ys.length=xs.length):mix ys xs xs.length=ys:=List.ext_getElem (by rw [zwC,h]) fun j h1 h2=>by
 rw [zwC] at h1;simp [mix,h1,h2]
theorem mix_set {ys xs:List Int} (h:ys.length=xs.length) {i:Nat} (hi:i<xs.length):(mix ys xs i).set i (ys[i]'(by omega))=mix ys xs (i+1):=by
 refine List.ext_getElem (by simp [zwC]) fun j h1 h2=>?_
 have hj:j<xs.length:=by simpa [zwC] using h1
 rw [List.getElem_set]
 by_cases e:i=j
 ·subst e
  rw [if_pos rfl];simp [mix,show i<ys.length by omega]
 ·rw [if_neg e]
  by_cases q:j<i
  ·simp [mix,q,show j<i+1 by omega]
  ·simp [mix,q,show ¬j<i+1 by omega]
open Go.RowKit
theorem mix_step12 {zs:List Int} {N i:Nat} (h:zs.length=N) (hi:i<N):(mix zs (List.replicate N 0) i).set i (zs.getD i 0)=mix zs (List.replicate N 0) (i+1):=by
 have h0:i<zs.length:=by omega
 have:=mix_set (ys:=zs) (xs:=List.replicate N 0) (by simp [h]) (i:=i) (by simpa using hi);rw [←this]
 congr 1
 rw [List.getD_eq_getElem?_getD,List.getElem?_eq_getElem h0]
 rfl
theorem mix_end12 {zs:List Int} {N:Nat} (h:zs.length=N):mix zs (List.replicate N 0) N=zs:=by
 have:=mix_all (ys:=zs) (xs:=List.replicate N 0) (by simp [h]);rw [List.length_replicate] at this;exact this
theorem zeD {w:World} {n:Nat} (h:n≤64):Calls Tryz.prog 41 #[.int .i64 (n:Int)] w fun e w'=>e=.returned (.bool false)∧w'=w:=by
 have g1:¬(n:Int)<0:=by omega
 have g2:¬(64:Int)<(n:Int):=by omega
 go_enter Tryz.func41,Tryz.ntmps41;go_wp2;go_ret;exact ⟨rfl,rfl⟩
def MBK (w wx:World) (bm:Nat) (M0:List Value):Prop:=Cel wx w.heap.size 24 [.int .i64 0,.int .i64 0,.slice none 0 0]∧Cel wx bm 24 M0∧Below w.heap.size w wx
theorem MBK.step {w x y:World} {bm:Nat} {M0:List Value} (h:MBK w x bm M0) (hb:Below x.heap.size x y):MBK w y bm M0:=⟨h.1.step hb,h.2.1.step hb,below_step h.2.2 hb⟩
theorem MBK.ty {w x y:World} {bm:Nat} {M0:List Value} (h:MBK w x bm M0) (ht:Ty 41 x y) (hb:Below w.heap.size w y):MBK w y bm M0:=⟨h.1.ty12 ht (by decide),h.2.1.ty12 ht (by decide),hb⟩
def MkH (w:World) (bm g N:Nat) (zs:List Int) (k:Nat) (M0:List Value) (gk:Nat) (s:Value) (wx:World):Prop :=
 ∃i:Nat,s=.int .i64 (i:Int)∧i≤N∧gk=N-i∧ArZ wx g (mix zs (List.replicate N 0) i) k∧MBK w wx bm M0
def zUC (w:World) (r c:Nat) (zs:List Int) (k:Nat) (e:Ending) (w':World):Prop:=∃g,e=.returned (.tuple #[.agg #[.int .i64 (r:Int),.int .i64 (c:Int),.slice (some ⟨g,0,none⟩) (r*c) (r*c)],.int .i64 0])∧w.heap.size≤g∧ArZ w' g zs k∧zs.length=r*c∧r≤64∧c≤64∧Below w.heap.size w w'
theorem ArZ.ty {T:TypeId} {w w':World} {g:Nat} {zs:List Int} {k:Nat} (h:ArZ w g zs k) (ht:Ty T w w') (h1:41≠T) (h2:43≠T):ArZ w' g zs k:=by
 obtain ⟨ps,q1,q2⟩:=h;exact ⟨ps,⟨q1.1.ty12 ht h1,q1.2⟩,q2.ty ht h2⟩
theorem ArZ.mcA {w:World} {g r c:Nat} {zs:List Int} {k:Nat} (h:ArZ w g zs k) (hl:zs.length=r*c) (hr:r≤64) (hc:c≤64):Mc w (.agg #[.int .i64 (r:Int),.int .i64 (c:Int),.slice (some ⟨g,0,none⟩) (r*c) (r*c)]) r c zs k:=by
 have hrc:r*c≤64*64:=Nat.mul_le_mul hr hc;obtain ⟨ps,p1,p2⟩:=h.done (by rw [hl];omega);rw [hl] at p1;exact ⟨_,ps,rfl,p1.1,p2.zcs,hl,hr,hc⟩
theorem zUC.mo {w w':World} {r c:Nat} {zs:List Int} {k:Nat} {e:Ending} (h:zUC w r c zs k e w'):zvF w r c zs k e w':=by
 obtain ⟨g,h1,h2,h3,h4,h5,h6,h7⟩:=h;exact ⟨_,h1,h3.mcA h4 h5 h6,h7⟩
theorem rmakeA12 {w:World} {v:Value} {pv:List (Value×Value)} {r c ka:Nat} {zs:List Int} (hv:Prs 0 w v pv) (hvz:Zis w pv zs ka) (hvl:zs.length=r*c) (hr:r≤64) (hc:c≤64) (hk:ka≤1099511627776) :
  Calls Tryz.prog 24 #[.int .i64 (r:Int),.int .i64 (c:Int),v] w (zUC w r c zs ka):=by
 have hrc:r*c≤64*64:=Nat.mul_le_mul hr hc;obtain ⟨N,hN⟩:∃N,r*c=N:=⟨_,rfl⟩
 have HBL:Hid (∀w',Calls Tryz.prog 42 #[.int .i64 (r:Int),.int .i64 (c:Int)] w' (zwF w' r c N)):=fun w'=>rblank12 hr hc hN
 have HNN:=hid hN;have hm0:=zsB (i:=r) (c:=c) hr hc;rw [hN] at hrc hvl hm0;have hm2:=hm0;rw [IntKind.wrap_i64] at hm2;have HVV:Hid (∀wx,Below w.heap.size w wx→∀t,t<N→∃b off cap n a l c,v=.slice (some ⟨b,off,none⟩) N cap∧wx.cell? ⟨b,off+t*2,none⟩=some (.bool n)∧wx.cell? ⟨b,off+t*2+1,none⟩=some (.slice a l c)∧Zi wx (.agg #[.bool n,.slice a l c]) (zs.getD t 0) ka):=fun wx h t ht=>by
  have:=(hv.now h).isI12 (hvz.now h) (t:=t) (by rw [hvl];exact ht);rw [hvl] at this;exact this
 obtain ⟨av,cv,rfl,-,-,-,-⟩:=hv.form;have hvp:pv.length=N:=by rw [hvz.1,hvl]
 rw [hvp] at HVV ⊢;obtain ⟨W0,hW⟩:∃W0,w.alloc mbox=W0:=⟨_,rfl⟩
 obtain ⟨b0,sz0⟩:=alo1 w mbox;rw [hW] at b0 sz0;have PR:=hid (zPD hW);have G0:=hid b0;have SZ:=hid sz0;have HK:=hid hk;have EW:=hid hW;have MIX:Hid (∀i,i<N→(mix zs (List.replicate N 0) i).set i (zs.getD i 0)=mix zs (List.replicate N 0) (i+1)):=fun i hi=>mix_step12 hvl hi
 have MIXL:Hid (∀i,(mix zs (List.replicate N 0) i).length=N):=fun i=>by rw [zwC];simp
 have MIXA:Hid (mix zs (List.replicate N 0) N=zs):=mix_end12 hvl;have HVL:=hid hvl;clear hv hvz hvl hvp b0 sz0 hW hk hN;have q0:((N:Int) != (N:Int))=false:=by simp
 go_enter Tryz.func24,Tryz.ntmps24;go_wp2_with fail;rw [EW.out];refine (zeD hr).mono ?_;rintro e w3 ⟨rfl,rfl⟩;go_wp2_with fail;refine (zeD hc).mono ?_;rintro e w4 ⟨rfl,rfl⟩;go_wp2_with fail;refine (HBL.out _).mono ?_;rintro e w2 ⟨g,rfl,hge,harr,b2⟩;clear q0 HBL hm0 hm2 EW;obtain ⟨V1,hV⟩:∃V1,w2.alloc (matO r c (.slice (some ⟨g,0,none⟩) N N))=V1:=⟨_,rfl⟩
 obtain ⟨b3,sz3⟩:=alo1 w2 (matO r c (.slice (some ⟨g,0,none⟩) N N));rw [hV] at b3 sz3;have PM:Hid (Cel V1 w2.heap.size 24 (matc r c (.slice (some ⟨g,0,none⟩) N N))):=by unfold Hid;rw [←hV];exact Cel.new w2 _ _
 have HGW:Hid (w.heap.size<g):=by unfold Hid;have h1:=SZ.out;omega
 have H0:Hid (MkH w w2.heap.size g N zs ka (matc r c (.slice (some ⟨g,0,none⟩) N N)) N (.int .i64 0) V1) :=
  ⟨0,rfl,Nat.zero_le _,by omega,by rw [mix_zero];exact (ArZ.start harr ka).step b3,(PR.out.step b2).step b3,PM.out,below_step (below_step G0.out b2) b3⟩
 have EV:=hid hV;clear PR G0 harr b2 b3 sz3 PM hV hge SZ;go_wp2_with fail;rw [EV.out];clear EV;obtain ⟨bm,hbm⟩:∃bm,w2.heap.size=bm:=⟨_,rfl⟩
 rw [hbm] at H0 ⊢;clear hbm
 go_loopg [9] N (fun gk s9 wx=>MkH w bm g N zs ka (matc r c (.slice (some ⟨g,0,none⟩) N N)) gk s9 wx)
 case atStart=>exact H0.out
 case round =>
  clear H0;obtain ⟨i,rfl,hin,hg,hfil,hmb⟩:=hrel;have FI:=hid hfil;have MBx:=hid hmb;have HG:=hid hg;clear hfil hmb hg
  by_cases hlt:i<N
  ·have hlt':(i:Int)<(N:Int):=by omega
   have hw:=zYA (i:=i) (by omega);have HMM:Hid (N-(i+1)<gk):=by unfold Hid;rw [HG.out];omega
   obtain ⟨b1,o1,c1,n1,a1,l1,d1,e7,u0,u1,z1⟩:=HVV.out wr MBx.out.2.2 i hlt;simp only [Value.slice.injEq] at e7;obtain ⟨rfl,-,rfl⟩:=e7;have HS:Hid (∀w',Below wr.heap.size wr w'→Calls Tryz.prog 35 #[.agg #[.bool n1,.slice a1 l1 d1]] w' (zeA w' (zs.getD i 0) ka)):=fun w' h=>zFG (z1.now h) HK.out
   have TP:=hid (MIX.out i hlt);have TL:=hid (MIXL.out i);have m2:=MBx.out.2.1.at (i:=2) rfl;clear z1 HG;go_wp2_with fail;have KB:Hid (∀w',Below wr.heap.size wr w'→w'.cell? ⟨bm,2,none⟩=some (.slice (some ⟨g,0,none⟩) N N)∧w'.cell? ⟨b1,o1+i*2,none⟩=some (.bool n1)∧w'.cell? ⟨b1,o1+i*2+1,none⟩=some (.slice a1 l1 d1)):=fun w' h=>⟨cnow h m2,cnow h u0,cnow h u1⟩
   refine zFA (fun w'=>w'.cell? ⟨bm,2,none⟩=some (.slice (some ⟨g,0,none⟩) N N)∧w'.cell? ⟨b1,o1+i*2,none⟩=some (.bool n1)∧w'.cell? ⟨b1,o1+i*2+1,none⟩=some (.slice a1 l1 d1)) 9 (by kernel_rfl) ?_;obtain ⟨D1,hD⟩:∃D1,wr.drew=D1:=⟨_,rfl⟩
   have GB:Hid (Below wr.heap.size wr D1):=by unfold Hid;rw [←hD];exact (Below.refl _ _).drew
   rw [hD];clear hD;have GBs:=GB;refine zIA [(0,(.pointer (some ⟨bm,2,none⟩))),(1,(.slice (some ⟨g,0,none⟩) N N)),(2,(.int .i64 (i:Int))),(3,(.slice (some ⟨b1,o1,none⟩) N cv)),(4,(.int .i64 (i:Int))),(5,(.pointer (some ⟨b1,o1+i*2,none⟩))),(6,(.agg #[.bool n1,.slice a1 l1 d1]))] 7 ?_ (KB.out _ GB.out) ?_
   ·simp only [zVA,gA9,g09,g19,Act.put,sI9,s09,s19]
    (repeat' (first | exact trivial | refine And.intro (Or.inl ⟨by rfl,?_⟩) ?_)) <;> (intro w hSw;(try dsimp only at hSw);go_simp)
   simp only [actV,gA9,g09,g19,Act.put,sI9,s09,s19];refine zAA (i:=7) (o:=⟨some 40,.call { callee:=.value (.func 35),args:=#[.tmp 39],argTypes:=#[41] },41, "ref.go:37",#[⟨6,.data⟩],none⟩) (by kernel_rfl) rfl (fun K hK=>?_);go_simp;go_at_call 35;refine (HS.out _ GB.out).mono ?_;rintro e w2 ⟨rr,rfl,m1,b⟩;have lz2:=(show Below _ _ _ from b).size;replace GB:=hid (below_step GB.out b);have FI1:=hid (FI.out.step (below_step (w0:=wr) GBs.out b));have MB2:=hid (MBx.out.step (below_step (w0:=wr) GBs.out b));have M1:=hid (m1.mono (Nat.zero_le _));obtain ⟨nr,xr,ar,cr,rfl⟩:=m1.parts;clear m1;clear b;refine hK.out _ _ (fun _=>KB.out _ GB.out) ?_;clear hK;refine zIA [(8,(.pointer (some ⟨g,i*2,none⟩)))] 1 ?_ (KB.out _ GB.out) ?_
   ·simp only [zVA,gA9,g09,g19,Act.put,sI9,s09,s19]
    (repeat' (first | exact trivial | refine And.intro (Or.inl ⟨by rfl,?_⟩) ?_)) <;> (intro w hSw;(try dsimp only at hSw);go_simp)
   simp only [actV,gA9,g09,g19,Act.put,sI9,s09,s19];refine zAA (i:=9) (o:=⟨none,.store 41 (.tmp 41) (.tmp 40),0, "ref.go:37",#[⟨8,.data⟩,⟨7,.data⟩,⟨7,.chain⟩,⟨0,.phase⟩,⟨1,.phase⟩,⟨2,.phase⟩,⟨3,.phase⟩,⟨4,.phase⟩,⟨5,.phase⟩,⟨6,.phase⟩,⟨7,.phase⟩],none⟩) (by kernel_rfl) rfl (fun K hK=>?_);obtain ⟨m0,am,lm,cm,e0,e1,e2,e3,-⟩:=FI1.out.cells (j:=i) (by rw [TL.out];exact hlt);go_simp;clear e0 e1 e2 e3;obtain ⟨V3,hW⟩:∃V3,((w2.setCell ⟨g,i*2,none⟩ (.bool nr)).setCell ⟨g,i*2+1,none⟩ (.slice ar xr.length cr))=V3:=⟨_,rfl⟩
   have HN1:Hid (MkH w bm g N zs ka (matc r c (.slice (some ⟨g,0,none⟩) N N)) (N-(i+1)) (.int .i64 ((i+1:Nat):Int)) V3):=by
    unfold Hid;rw [←hW];refine ⟨i+1,rfl,by omega,rfl,?_,MB2.out.ty (FI1.out.ty12 _ _) (bset (bset MB2.out.2.2 (by have:=HGW.out;omega)) (by have:=HGW.out;omega))⟩;have:=FI1.out.put (t:=i) (by rw [TL.out];exact hlt) M1.out;rw [TP.out] at this;exact this
   rw [hW];clear hW;refine hK.out _ _ (fun h=>absurd h (by decide)) ?_;clear hK
   try simp only [Act.put]
   refine zDA (by kernel_rfl) ?_ _;clear HS FI MBx FI1 MB2 M1 GBs GB KB;go_wp2_with fail;go_roundg (N-(i+1))
   case rel=>exact HN1.out
   case measure=>exact HMM.out
  ·have hlt':¬(i:Int)<(N:Int):=by omega
   obtain rfl:i=N:=by omega
   have m0:=MBx.out.2.1.at (i:=0) rfl;have m1:=MBx.out.2.1.at (i:=1) rfl;have m2:=MBx.out.2.1.at (i:=2) rfl;have r0:=MBx.out.1.at (i:=0) rfl;have r1:=MBx.out.1.at (i:=1) rfl;have r2:=MBx.out.1.at (i:=2) rfl;have f0:=MBx.out.1.fz 0;have f1:=MBx.out.1.fz 1;have f2:=MBx.out.1.fz 2;have h1:=FI.out;rw [MIXA.out] at h1;have FIN:Hid (zUC w r c zs ka (.returned (.tuple #[.agg #[.int .i64 (r:Int),.int .i64 (c:Int),.slice (some ⟨g,0,none⟩) i i],.int .i64 0])) (put3 wr w.heap.size (.int .i64 (r:Int)) (.int .i64 (c:Int)) (.slice (some ⟨g,0,none⟩) i i))):=by
    have t1:Ty 24 wr (put3 wr w.heap.size (.int .i64 (r:Int)) (.int .i64 (c:Int)) (.slice (some ⟨g,0,none⟩) i i)):=((Ty.set MBx.out.1).trans (Ty.set (MBx.out.1.set 0 _))).trans (Ty.set ((MBx.out.1.set 0 _).set 1 _));exact ⟨g,by rw [HNN.out],Nat.le_of_lt HGW.out,h1.ty t1 (by decide) (by decide),by rw [HVL.out,HNN.out],hr,hc,zzA MBx.out.2.2 (by omega) _ _ _⟩
   have PG:=hid (MBx.out.1.put3 (.int .i64 (r:Int)) (.int .i64 (c:Int)) (.slice (some ⟨g,0,none⟩) i i));clear FI MBx HG h1;go_wp2;exact bodyPost_ret (zQF Tryz.results24 PG.out _ (by rfl) (by rfl)) rfl FIN.out
theorem ArZ.more18 {w:World} {g:Nat} {zs:List Int} {k l:Nat} (h:ArZ w g zs k) (hl:k≤l):ArZ w g zs l:=by
 obtain ⟨ps,h1,h2⟩:=h;exact ⟨ps,h1,h2.1,fun j p z hp hz=>(h2.2 j p z hp hz).more hl⟩
theorem zFF {w:World} {v:Value} {m n k:Nat} {zs:List Int} (h:Mx w v m n zs k) (hk:k≤1099511627776):Calls Tryz.prog 11 #[v] w (zUC w m n zs k):=by
 have CK:=hid (rcheckM h);obtain ⟨aa,ca,rfl,hm,hn⟩:=h.form;have hzl:zs.length=m*n:=by obtain ⟨_,_,_,_,_,h,_⟩:=h;exact h
 have hMK:Hid (∀w',Below w.heap.size w w'→Calls Tryz.prog 24 #[.int .i64 (m:Int),.int .i64 (n:Int),.slice aa (m*n) ca] w' (zUC w' m n zs k)):=fun w' hb=>by
  obtain ⟨a1,ps,e,h1,h2,h3,h4,h5⟩:=h;simp only [matv,Value.agg.injEq,Array.mk.injEq,List.cons.injEq,and_true,true_and] at e;subst e;exact rmakeA12 (h1.now hb) (h2.now hb) h3 h4 h5 hk
 obtain ⟨la,hla⟩:∃la,m*n=la:=⟨_,rfl⟩
 rw [hla] at CK hMK ⊢;have HLA:=hid hla;dsimp only [matv] at CK ⊢;obtain ⟨W0,hW⟩:∃W0,(w.alloc (.cells #[.int .i64 (m:Int),.int .i64 (n:Int),.slice aa la ca] 24)).alloc mbox=W0:=⟨_,rfl⟩
 obtain ⟨b0,sz0⟩:=zSA w (.cells #[.int .i64 (m:Int),.int .i64 (n:Int),.slice aa la ca] 24) mbox;rw [hW] at b0 sz0;have dA:Cel W0 w.heap.size 24 [.int .i64 (m:Int),.int .i64 (n:Int),.slice aa la ca]:=by rw [←hW];exact (Cel.new w _ _).step ((Below.refl _ _).alloc (Nat.le_refl _) _)
 have dR:Cel W0 (w.heap.size+1) 24 [.int .i64 0,.int .i64 0,.slice none 0 0]:=by
  rw [←hW];have:=Cel.new (w.alloc (.cells #[.int .i64 (m:Int),.int .i64 (n:Int),.slice aa la ca] 24)) 24 [.int .i64 0,.int .i64 0,.slice none 0 0]
  simpa using this
 have DA:=hid dA;have DR:=hid dR;have B0:=hid b0;have EW:=hid hW;clear h hzl b0 sz0 hW dA dR hla;go_enter Tryz.func11,Tryz.ntmps11;go_upto_region 1 with fail
 rw [EW.out];clear EW;have x0:=DA.out.at (i:=0) rfl;have x1:=DA.out.at (i:=1) rfl;have x2:=DA.out.at (i:=2) rfl;go_wp2_with fail;refine (CK.out _ B0.out).mono ?_;rintro e w1 ⟨rfl,b⟩;replace DA:=hid (DA.out.step b);replace DR:=hid (DR.out.step b);replace B0:=hid (below_step B0.out b);clear b CK x0 x1 x2;have x0:=DA.out.at (i:=0) rfl;have x1:=DA.out.at (i:=1) rfl;have x2:=DA.out.at (i:=2) rfl;go_wp2_with fail;refine (hMK.out _ B0.out).mono ?_;rintro e w4 ⟨g4,rfl,hg4,q3,hl4,hr4,hc4,q4⟩;have hg5:w.heap.size≤g4:=Nat.le_trans B0.out.size hg4;rw [HLA.out];have pr:=DR.out.step q4;have y0:=pr.at (i:=0) rfl;have y1:=pr.at (i:=1) rfl;have y2:=pr.at (i:=2) rfl;have f0:=pr.fz 0;have f1:=pr.fz 1;have f2:=pr.fz 2;have FF:Hid (zUC w m n zs k (.returned (.tuple #[.agg #[.int .i64 (m:Int),.int .i64 (n:Int),.slice (some ⟨g4,0,none⟩) la la],.int .i64 0])) (put3 w4 (w.heap.size+1) (.int .i64 (m:Int)) (.int .i64 (n:Int)) (.slice (some ⟨g4,0,none⟩) la la))∧Cel (put3 w4 (w.heap.size+1) (.int .i64 (m:Int)) (.int .i64 (n:Int)) (.slice (some ⟨g4,0,none⟩) la la)) (w.heap.size+1) 24 [.int .i64 (m:Int),.int .i64 (n:Int),.slice (some ⟨g4,0,none⟩) la la]):=by
  have t1:Ty 24 w4 (put3 w4 (w.heap.size+1) (.int .i64 (m:Int)) (.int .i64 (n:Int)) (.slice (some ⟨g4,0,none⟩) la la)):=((Ty.set pr).trans (Ty.set (pr.set 0 _))).trans (Ty.set ((pr.set 0 _).set 1 _));exact ⟨⟨g4,by rw [HLA.out],hg5,q3.ty t1 (by decide) (by decide),hl4,hr4,hc4,zzA (below_step B0.out q4) (Nat.le_succ _) _ _ _⟩,pr.put3 _ _ _⟩
 clear q3 q4 pr hg4 hg5 hl4 hr4 hc4 DR B0 x0 x1 x2 hMK DA;go_wp2_with fail;refine bodyPost_ret (zQF Tryz.results11 FF.out.2 _ (by rfl) (by rfl)) rfl ?_;exact FF.out.1
theorem rneg18 {w:World} {va:Value} {A:Int} {ka:Nat} (ha:Zi w va A ka) (hk:ka≤1099511627776) :
  Calls Tryz.prog 13 #[va] w (zeA w (-A) ka):=by
 have za0:=ha;obtain ⟨na,xa,aa,ca,rfl,sa,ea,la⟩:=ha;obtain ⟨W0,hW0⟩:∃W0,(w.alloc (duo (.bool na) (.slice aa xa.length ca))).alloc zbox=W0:=⟨_,rfl⟩
 obtain ⟨b0,sz0⟩:=zSA w (duo (.bool na) (.slice aa xa.length ca)) zbox;rw [hW0] at b0 sz0;have pa:Duo W0 (w.heap.size) (.bool na) (.slice aa xa.length ca):=by rw [←hW0];exact zCA (zEA (by simp)) _
 have r0:Duo W0 (w.heap.size+1) (.bool false) (.slice none 0 0):=by rw [←hW0];exact zEA (by simp)
 have Pa:=hid pa;have ia0:=pa.c0;have ia1:=pa.c1;have Za:=hid (za0.now b0);have Sa:=hid (sa.now b0);have R0:=hid r0;have EW:=hid hW0;have G:=hid b0;clear b0 hW0 za0 sa pa r0;have EV:Hid (iv (!na) xa = -A):=by
  unfold Hid;rw [zsG,ea]
 clear ea;have HL:Hid (Calls Tryz.prog 25 #[.bool (!na),.slice aa xa.length ca] W0 (zeA W0 (-A) xa.length)):=by
  unfold Hid;have q:=zTG (n := !na) Sa.out (by omega);rw [EV.out] at q;exact q
 clear EV;go_enter Tryz.func13,Tryz.ntmps13;go_wp2_with fail;rw [EW.out];clear ia0 ia1;refine (HL.out).mono ?_;rintro e w1 ⟨r,rfl,m1,b⟩;obtain ⟨n1,x1,a1,q1,rfl,-,-,-,-,-⟩:=id m1;replace R0:=hid (R0.out.step b);replace G:=hid (below_step G.out b);have Z1:=hid (m1.more la);clear b m1;have y00:=R0.out.c0;have y01:=R0.out.c1;have f00:=R0.out.fz 0;have f01:=R0.out.fz 1;go_wp2;exact bodyPost_ret (zHB Tryz.results13 (R0.out.set _ _) _ (by rfl)) rfl (zuB (B:=W0.heap.size) Z1.out G.out (by omega) (by omega))
end Go.Proofs.YtefpboopafdhpaaGreat
