/-
 QRows9ToCat9: Rows9, RowsOf9, Cat9, joined.
-/
import Derived.Test.YtjnokjgbeploaaaGreatQFil9ToDot9
import Derived.Lib.AppendZeros
import Derived.Laws.AppendOwnNone

set_option maxRecDepth 100000
set_option maxHeartbeats 6400000
set_option linter.unusedVariables false
set_option linter.unusedSimpArgs false
namespace Go.Proofs.YtjnokjgbeploaaaGreat
open Go.RowKit
def Prr (B:Nat) (w:World) (v:Value) (pss:List (List (Value×Value))):Prop :=
 ∃a c,v=.slice a pss.length c∧pss.length≤c∧pss.length≤1048576∧(pss=[]∨∃b off,a=some ⟨b,off,none⟩∧b<w.heap.size∧∀(j:Nat) (ps:List (Value×Value)),pss[j]?=some ps→∃u,w.cell? ⟨b,off+j,none⟩=some u∧Prs B w u ps)
theorem Prr.now {B:Nat} {w w':World} {v:Value} {pss:List (List (Value×Value))} (h:Prr B w v pss) (hb:Below w.heap.size w w'):Prr B w' v pss:=by
 obtain ⟨a,c,h1,h2,h3,h4⟩:=h;refine ⟨a,c,h1,h2,h3,?_⟩;rcases h4 with h4 | ⟨b,off,h5,h6,h7⟩
 ·exact .inl h4
 ·refine .inr ⟨b,off,h5,Nat.lt_of_lt_of_le h6 hb.size,fun j ps hp=>?_⟩
  obtain ⟨u,q1,q2⟩:=h7 j ps hp;exact ⟨u,(hb.cell (p:=⟨b,off+j,none⟩) h6).trans q1,q2.now hb⟩
theorem Prr.form {B:Nat} {w:World} {v:Value} {pss:List (List (Value×Value))} (h:Prr B w v pss):∃a c,v=.slice a pss.length c∧pss.length≤c∧pss.length≤1048576∧(pss≠[]→∃b off,a=some ⟨b,off,none⟩):=by
 obtain ⟨a,c,h1,h2,h3,h4⟩:=h;refine ⟨a,c,h1,h2,h3,fun hne=>?_⟩;rcases h4 with h4 | ⟨b,off,h5,h6,h7⟩
 ·exact absurd h4 hne
 ·exact ⟨b,off,h5⟩
theorem Prr.at {B:Nat} {w:World} {b off l c:Nat} {pss:List (List (Value×Value))} (h:Prr B w (.slice (some ⟨b,off,none⟩) l c) pss) {i:Nat} {ps:List (Value×Value)} (hi:pss[i]?=some ps):∃u,w.cell? ⟨b,off+i,none⟩=some u∧Prs B w u ps:=by
 obtain ⟨a',c',h1,h2,h3,h4⟩:=h;rcases h4 with h4 | ⟨b',off',h5,h6,h7⟩
 ·subst h4;simp at hi
 ·simp only [Value.slice.injEq] at h1
  obtain ⟨rfl,-,-⟩:=h1;simp only [Option.some.injEq,Addr.mk.injEq,and_true] at h5;obtain ⟨rfl,rfl⟩:=h5;exact h7 i ps hi
theorem Prr.mono {B B':Nat} {w:World} {v:Value} {pss:List (List (Value×Value))} (h:Prr B w v pss) (hB:B'≤B):Prr B' w v pss:=by
 obtain ⟨a,c,h1,h2,h3,h4⟩:=h;refine ⟨a,c,h1,h2,h3,?_⟩;rcases h4 with h4 | ⟨b,off,h5,h6,h7⟩
 ·exact .inl h4
 ·refine .inr ⟨b,off,h5,h6,fun j ps hp=>?_⟩
  obtain ⟨u,q1,q2⟩:=h7 j ps hp;exact ⟨u,q1,q2.mono hB⟩
def FilR (wx:World) (g n i:Nat) (P:Nat→Value→Prop):Prop:=∃vs,zjE wx g vs∧vs.length=n∧(∀u∈vs,NoW u)∧∀(j:Nat) (u:Value),j<i→vs[j]?=some u→P j u
theorem FilR.start {w:World} {g n:Nat} (h:zjE w g (List.replicate n (.slice none 0 0))) (P:Nat→Value→Prop):FilR w g n 0 P:=⟨_,h,by simp,(fun u hu=>by rw [List.eq_of_mem_replicate hu];exact noS _ _ _),fun j u hj=>by omega⟩
theorem FilR.step {w w':World} {g n i:Nat} {P P':Nat→Value→Prop} (h:FilR w g n i P) (hb:Below w.heap.size w w') (hP:∀j u,j<i→P j u→P' j u):FilR w' g n i P':=by
 obtain ⟨vs,h1,h2,hw,h3⟩:=h;exact ⟨vs,h1.step hb,h2,hw,fun j u hj hu=>hP j u hj (h3 j u hj hu)⟩
theorem FilR.put {w:World} {g n i:Nat} {P P':Nat→Value→Prop} {x:Value} (h:FilR w g n i P) (hi:i<n) (hP:∀j u,j<i→P j u→P' j u) (hx:P' i x) (hn:NoW x):FilR (w.setCell ⟨g,i,none⟩ x) g n (i+1) P':=by
 obtain ⟨vs,h1,h2,hw,h3⟩:=h;refine ⟨vs.set i x,h1.set i x,by simpa using h2,(fun u hu=>by
  rcases List.mem_or_eq_of_mem_set hu with q | rfl
  ·exact hw u q
  ·exact hn),fun j u hj hu=>?_⟩
 by_cases q:j=i
 ·subst q
  rw [List.getElem?_set_self (by omega),Option.some.injEq] at hu;subst hu;exact hx
 ·rw [List.getElem?_set_ne (by omega)] at hu
  exact hP j u (by omega) (h3 j u (by omega) hu)
theorem FilR.blk {w:World} {g n i:Nat} {P:Nat→Value→Prop} (h:FilR w g n i P):g<w.heap.size:=by
 obtain ⟨vs,h1,h2,hw,h3⟩:=h;exact h1.blk
theorem FilR.wk {w:World} {g n i j:Nat} {P:Nat→Value→Prop} (h:FilR w g n i P) (hj:j<n) (x:Value):Wk w (w.setCell ⟨g,j,none⟩ x):=by
 obtain ⟨vs,h1,h2,hw,h3⟩:=h;exact h1.wk (List.getElem?_eq_getElem (by omega)) (hw _ (List.getElem_mem (l:=vs) (n:=j) (by omega))) x
theorem FilR.cells {w:World} {g n i j:Nat} {P:Nat→Value→Prop} (h:FilR w g n i P) (hj:j<n):∃u,w.cell? ⟨g,j,none⟩=some u∧w.frozen? ⟨g,j,none⟩=false:=by
 obtain ⟨vs,h1,h2,hw,h3⟩:=h;exact ⟨vs[j]'(by omega),h1.at (List.getElem?_eq_getElem (by omega)),h1.fz _⟩
theorem slice_mid (w:World) (b off n c lo hi:Nat) (h:lo≤hi) (h1:hi≤c) (h2:lo<c):(Instr.slice 22 (.slice (some ⟨b,off,none⟩) n c) (some (.int .i64 (lo:Int))) (some (.int .i64 (hi:Int))) none).run Tryz.prog w=.ok (.slice (some ⟨b,off+2*lo,none⟩) (hi-lo) (c-lo)) w:=by
 have i3:(lo:Int)≤(hi:Int):=by omega
 have i1:(0:Int)≤(lo:Int):=by omega
 have i2:(0:Int)≤(hi:Int):=by omega
 have i5:(hi:Int)≤(c:Int):=by omega
 have i4:¬c=lo:=by omega
 go_simp
theorem slice_zero (w:World) (a:Option Addr) (c:Nat):(Instr.slice 22 (.slice a 0 c) (some (.int .i64 (0:Int))) (some (.int .i64 (0:Int))) none).run Tryz.prog w=.ok (.slice a 0 c) w:=by
 have i5:(0:Int)≤(c:Int):=by omega
 rcases a with _ | ⟨b,off,sp⟩
 ·go_simp
 ·by_cases q:c=0
  ·subst q;go_simp
  ·go_simp
def rowsL {α:Type} (r c:Nat) (ps:List α):List (List α):=(List.range r).map fun i=>(ps.drop (i*c)).take c
theorem zGG {α:Type} {r c i:Nat} {ps:List α} (h:i<r):(rowsL r c ps)[i]?=some ((ps.drop (i*c)).take c):=by simp [rowsL,h]
abbrev matv (r c:Nat) (at_:Value):Value:=.agg #[.int .i64 (r:Int),.int .i64 (c:Int),at_]
abbrev matc (r c:Nat) (at_:Value):List Value:=[.int .i64 (r:Int),.int .i64 (c:Int),at_]
theorem cut_row {B:Nat} {w:World} {a:Option Addr} {n cap r c i:Nat} {ps:List (Value×Value)} (h:Prs B w (.slice a n cap) ps) (hl:ps.length=r*c) (hi:i<r) :
  ∃a' cap',(∀wx,(Instr.slice 22 (.slice a n cap) (some (.int .i64 ((i*c:Nat):Int))) (some (.int .i64 (((i+1)*c:Nat):Int))) none).run Tryz.prog wx=.ok (.slice a' c cap') wx)∧Prs B w (.slice a' c cap') ((ps.drop (i*c)).take c):=by
 have h0:=h;obtain ⟨a',c',h1,h2,h3,-,h4⟩:=h;simp only [Value.slice.injEq] at h1;obtain ⟨rfl,rfl,rfl⟩:=h1
 by_cases hc:c=0
 ·subst hc
  have e0:ps=[]:=List.eq_nil_of_length_eq_zero (by simpa using hl);subst e0;refine ⟨a,cap,fun wx=>?_,?_⟩
  ·simpa using slice_zero wx a cap
  ·simpa using h0
 ·rcases h4 with rfl | ⟨b,off,rfl,h5',h6,h7⟩
  ·rcases Nat.mul_eq_zero.1 (show r*c=0 by simpa using hl.symm) with q | q <;> omega
  ·have e1:(i+1)*c≤r*c:=Nat.mul_le_mul_right c hi
   have e2:(i+1)*c=i*c+c:=by rw [Nat.add_mul,Nat.one_mul]
   refine ⟨some ⟨b,off+i*c*2,none⟩,cap-i*c,fun wx=>?_,h0.piece (by omega)⟩;have:=slice_mid wx b off ps.length cap (i*c) ((i+1)*c) (by omega) (by omega) (by omega);rw [show (i+1)*c-i*c=c by omega,Nat.mul_comm 2] at this;exact this
def znI (w0 w:World) (B:Nat) (at_:Value) (g r c:Nat) (ps:List (Value×Value)) (gk:Nat) (s:Value) (wx:World):Prop :=
 ∃i:Nat,s=.int .i64 (i:Int)∧i≤r∧gk=r-i∧FilR wx g r i (fun j u=>Prs B w0 u ((ps.drop (j*c)).take c))∧Cel wx w.heap.size 24 (matc r c at_)∧Below w.heap.size w wx
def zdI (w0 w:World) (B r c:Nat) (ps:List (Value×Value)) (e:Ending) (w':World):Prop:=∃g,e=.returned (.slice (some ⟨g,0,none⟩) r r)∧w.heap.size≤g∧g<w'.heap.size∧(∀i,i<r→∃ai ci,w'.cell? ⟨g,i,none⟩=some (.slice ai c ci)∧Prs B w0 (.slice ai c ci) ((ps.drop (i*c)).take c))∧Below w.heap.size w w'
def zAI (w:World) (B:Nat) (pss:List (List (Value×Value))) (e:Ending) (w':World):Prop:=∃u,e=.returned u∧Prr B w' u pss∧Below w.heap.size w w'
theorem zXC {i c:Nat} (hi:i≤64) (hc:c≤64):IntKind.i64.wrap ((i:Int)*(c:Int))=((i*c:Nat):Int):=by
 have h:i*c≤64*64:=Nat.mul_le_mul hi hc;rw [show (i:Int)*(c:Int)=((i*c:Nat):Int) by simp];rw [zaA] <;> omega
theorem zbD {w0 w:World} {B r c:Nat} {at_:Value} {ps:List (Value×Value)} (ha:Prs B w0 at_ ps) (hl:ps.length=r*c) (hr:r≤64) (hc:c≤64) :
  Calls Tryz.prog 41 #[matv r c at_] w (zdI w0 w B r c ps):=by
 have A0:=hid ha;obtain ⟨a0,c0,rfl,hc0,hn0,-,hf0⟩:=ha.form;obtain ⟨n,hn⟩:∃n,ps.length=n:=⟨_,rfl⟩
 have HL:=hid hl;rw [hn] at A0 hc0 hn0 ⊢;clear ha hf0 hl hn;obtain ⟨W0,hW⟩:∃W0,w.alloc (.cells #[.int .i64 (r:Int),.int .i64 (c:Int),.slice a0 n c0] 24)=W0:=⟨_,rfl⟩
 obtain ⟨b0,sz0⟩:=alo1 w (.cells #[.int .i64 (r:Int),.int .i64 (c:Int),.slice a0 n c0] 24);rw [hW] at b0 sz0;have P1:Hid (Cel W0 w.heap.size 24 (matc r c (.slice a0 n c0))):=by unfold Hid;rw [←hW];exact Cel.new w _ _
 have c1:(w.alloc (.cells #[.int .i64 (r:Int),.int .i64 (c:Int),.slice a0 n c0] 24)).cell? ⟨w.heap.size,0,none⟩=some (.int .i64 (r:Int)):=by rw [hW];exact P1.out.at (i:=0) rfl
 have G0:=hid b0;have EW:=hid hW;have SZ:=hid sz0;clear b0 hW sz0;go_enter Tryz.func41,Tryz.ntmps41;go_wp2_with (at_make;rw [EW.out];refine zpA _ rfl _ _ rfl _ _ r r rfl rfl rfl rfl (Nat.le_refl _) (by omega) ?_)
 intro w1 hrow hb1 hsz1;have H0:Hid (znI w0 w B (.slice a0 n c0) W0.heap.size r c ps r (.int .i64 0) w1):=⟨0,rfl,Nat.zero_le _,by omega,FilR.start hrow _,P1.out.step hb1,zBA G0.out hb1⟩
 have HGE:Hid (w.heap.size<W0.heap.size):=by unfold Hid;rw [SZ.out];omega
 clear hrow hb1 hsz1 P1 G0 EW SZ c1;generalize W0.heap.size=g at *;go_wp2_with fail
 go_loopg [10] r (fun gk s10 wx=>znI w0 w B (.slice a0 n c0) g r c ps gk s10 wx)
 case atStart=>exact H0.out
 case round =>
  clear H0;obtain ⟨i,rfl,hin,hg,hfil,hcel,hG⟩:=hrel;have FI:=hid hfil;have P1:=hid hcel;have G:=hid hG;have HG:=hid hg;clear hfil hcel hG hg
  by_cases hlt:i<r
  ·have hlt':(i:Int)<(r:Int):=by omega
   obtain ⟨a',cap',hs,hp⟩:=cut_row (i:=i) (c:=c) A0.out HL.out hlt;have HP:=hid hp;have hw:=zNA (i:=i) (by omega);have hm0:=zXC (i:=i) (c:=c) (by omega) hc;have hm1:=zXC (i:=i+1) (c:=c) (by omega) hc;rw [show ((i+1:Nat):Int)=(i:Int)+1 by omega] at hm1;have HN1:Hid (znI w0 w B (.slice a0 n c0) g r c ps (r-(i+1)) (.int .i64 ((i+1:Nat):Int)) (wr.setCell ⟨g,i,none⟩ (.slice a' c cap'))) :=
    ⟨i+1,rfl,by omega,rfl,FI.out.put hlt (fun j u _ q=>q) HP.out (noS _ _ _),P1.out.ne (by have:=HGE.out;omega),bset G.out (by have:=HGE.out;omega)⟩
   clear hp HP;generalize i*c=lo at *;generalize (i+1)*c=hi at *;have hm2:=hm0;have hm3:=hm1;rw [IntKind.wrap_i64] at hm2 hm3;have k1:=P1.out.at (i:=1) rfl;have k2:=P1.out.at (i:=2) rfl;obtain ⟨u0,e0,e1⟩:=FI.out.cells hlt;have HMM:Hid (r-(i+1)<gk):=by unfold Hid;rw [HG.out];omega
   clear FI P1 G HG;go_wp2_with fail;go_roundg (r-(i+1))
   case rel=>exact HN1.out
   case measure=>exact HMM.out
  ·have hlt':¬(i:Int)<(r:Int):=by omega
   obtain rfl:i=r:=by omega
   have FIN:Hid (zdI w0 w B i c ps (.returned (.slice (some ⟨g,0,none⟩) i i)) wr):=by
    refine ⟨g,rfl,Nat.le_of_lt HGE.out,FI.out.blk,fun j hj=>?_,G.out⟩;obtain ⟨vs,h1,h2,-,h3⟩:=FI.out;have hv:vs[j]?=some (vs[j]'(by omega)):=List.getElem?_eq_getElem (by omega);have hp:=h3 j _ hj hv;obtain ⟨aj,cj,ej,-,-,-,-⟩:=hp.form;have el:((ps.drop (j*c)).take c).length=c:=by
     have h5:(j+1)*c≤i*c:=Nat.mul_le_mul_right c hj;have h6:(j+1)*c=j*c+c:=by rw [Nat.add_mul,Nat.one_mul]
     have h7:=HL.out
     simp
     omega
    rw [el] at ej;refine ⟨aj,cj,?_,?_⟩
    ·rw [h1.at hv,ej]
    ·rw [ej] at hp;exact hp
   clear FI P1 G HG;go_wp2;go_ret;exact FIN.out
theorem rowsOf_any {w:World} {B r c:Nat} {at_:Value} {ps:List (Value×Value)} (ha:Prs B w at_ ps) (hl:ps.length=r*c) (hr:r≤64) (hc:c≤64) :
  Calls Tryz.prog 41 #[matv r c at_] w (zAI w B (rowsL r c ps)):=by
 refine (zbD ha hl hr hc).mono ?_;rintro e w' ⟨g,rfl,h1,h2,h3,h4⟩;refine ⟨_,rfl,⟨some ⟨g,0,none⟩,r,by simp [rowsL],by simp [rowsL],by simp [rowsL];omega,.inr ⟨g,0,rfl,h2,fun j qs hq=>?_⟩⟩,h4⟩;have hj:j<r:=by simpa [rowsL] using (List.getElem?_eq_some_iff.1 hq).1
 rw [zGG hj,Option.some.injEq] at hq;obtain ⟨ai,ci,q1,q2⟩:=h3 j hj;rw [←hq,Nat.zero_add];exact ⟨_,q1,q2.now h4⟩
theorem zyA {w w':World} {base:Nat} {e:TypeId} {size:Nat} {v:Value} {n:Nat} {xs:List Value} (h:w.ownsRow base e size v n xs) (hk:∀b,v.ownBlock=some b→b<w.heap.size→w'.heap[b]?=w.heap[b]?):w'.ownsRow base e size v n xs:=by
 obtain ⟨q1,q2 | ⟨g,cap,cur,q2,q3,q4,q5⟩⟩:=h
 ·exact ⟨q1,.inl q2⟩
 ·exact ⟨q1,.inr ⟨g,cap,cur,q2,q3,(hk g (by rw [q2];rfl) (Array.getElem?_eq_some_iff.1 q4).1).trans q4,q5⟩⟩
theorem zzB {w:World} {B:Nat} {v:Value} {ps:List (Value×Value)} (h:w.ownsRow B 39 2 v ps.length (flat ps)) (hl:ps.length≤1048576):Prs B w v ps:=by
 have h1':=h;obtain ⟨q1,⟨q2,q3⟩ | ⟨g,cap,cur,q2,q3,q4,q5,q6⟩⟩:=h
 ·rw [q2]
  have:ps=[]:=List.eq_nil_of_length_eq_zero q3;subst this;exact Prs.nil _ _
 ·refine ⟨_,cap,q2,q5,hl,(fun q=>by cases q),.inr ⟨g,0,rfl,q3,(Array.getElem?_eq_some_iff.1 q4).1,fun j p hp=>?_⟩⟩
  have ea:∀j,(⟨g,0,none⟩:Addr).add j=⟨g,j,none⟩:=fun j=>by unfold Addr.add;split <;> simp_all
  have c0:=World.ownsRow.cells h1' (g:=g) (by rw [q2];rfl) _ _ (zPB hp).1;have c1:=World.ownsRow.cells h1' (g:=g) (by rw [q2];rfl) _ _ (zPB hp).2;rw [ea] at c0 c1;rw [Nat.zero_add];exact ⟨c0,c1⟩
theorem isI_one {ps:List (Value×Value)} (h:∀p∈ps,IsI p):∀u∈flat ps,u.oneCell'=true:=by
 induction ps with
 | nil=>intro u hu;simp [flat] at hu
 | cons p r ih =>
  intro u hu;obtain ⟨n,a,l,c,e⟩:=h p (by simp);simp only [flat,List.mem_cons] at hu;rw [e] at hu;rcases hu with rfl | rfl | hu
  ·rfl
  ·rfl
  ·exact ih (fun q hq=>h q (by simp [hq])) u hu
def OwnP (B:Nat) (w:World) (v:Value) (ps:List (Value×Value)):Prop:=w.ownsRow B 39 2 v ps.length (flat ps)
theorem wpList_append_pairs (w:World) {ops:Array Oper} {rest:List Oper} {o:Oper} {a:Act} {Q:Exit→Act→World→Prop}
  (hgd:o.guard=none) (s x:Operand) (hop:o.op=.call { callee:=.builtin .append,args:=#[s,x],argTypes:=#[22,22] })
  (B:Nat) (v u:Value) (ps qs:List (Value×Value)) (hs:a.eval s=v) (hB:OwnP B w v ps) (hx:a.eval x=u) (B':Nat) (hu:Prs B' w u qs) (hi:∀p∈qs,IsI p) (hlen:ps.length+qs.length≤1048576) (hBs:B≤w.heap.size)
  (hK:∀v' w',OwnP B w' v' (ps ++ qs)→Hid (w.grownBy w' v.ownBlock)→wpList Tryz.prog ops Q rest (a.put o.dst v') w') :
  wpList Tryz.prog ops Q (o :: rest) a w:=by
 obtain ⟨i,hii,hz,hsz,hby⟩:=info_parts Tryz.infoZ9;obtain ⟨au,cu,rfl,h2,h3,hn,h4⟩:=hu;rcases au with _ | ad
 ·have e:qs=[]:=by
   rcases h4 with h4 | ⟨b,off,q,_⟩
   ·exact h4
   ·cases q
  subst e;have:=hn rfl;subst this;refine wpList_append_own_none hgd s x 22 hop B 39 i 2 Tryz.underlying22 hii v ps.length (flat ps) hs hB hx ?_;have:=hK v w (by simpa using hB) ⟨rfl,rfl,rfl,Nat.le_refl _,fun _ _ _=>rfl⟩;exact this
 ·refine wpList_plain hgd fun K hK'=>?_
  have hnews:∀j y,(flat qs)[j]?=some y→w.cell? (ad.add j)=some y:=fun j y hj=>by
   have hjl:=(List.getElem?_eq_some_iff.1 hj).1;rw [zTC] at hjl;rcases h4 with rfl | ⟨b,off,q,_,_,hc⟩
   ·simp at hjl
   ·obtain rfl:ad=⟨b,off,none⟩:=by simpa using q
    have ea:∀j,(⟨b,off,none⟩:Addr).add j=⟨b,off+j,none⟩:=fun j=>by unfold Addr.add;split <;> simp_all
    rw [ea];have hp:qs[j / 2]?=some (qs[j / 2]'(by omega)):=List.getElem?_eq_getElem (by omega);have hf:=zPB hp;have hq:=hc _ _ hp;rcases Nat.mod_two_eq_zero_or_one j with m | m
    ·have e:j / 2*2=j:=by omega
     rw [e] at hf hq;rw [hq.1,←hf.1,hj]
    ·have e:j / 2*2+1=j:=by omega
     rw [Nat.add_assoc,e] at hq;rw [e] at hf;rw [hq.2,←hf.2,hj]
  obtain ⟨v',w',hr,k1,k2,-,-⟩:=run_append_own_at (P:=Tryz.prog) w B 22 o.type 39 i (.agg #[.bool false,.slice none 0 0]) 2 32 Tryz.underlying22 hii hz hsz hby rfl (by omega) v ps.length (flat ps) hB ad qs.length cu (flat qs) (zTC qs) hnews (isI_one hi) (by unfold maxLen;omega) (by omega) hBs;unfold Oper.wp execOp;simp only [hop,resolve,invoke,builtin,Sem.run_bind,Sem.run_pure,Result.andThen_ok,List.map_toArray,List.map_cons,List.map_nil,hs,hx,hr];refine hK' _ _ (hK v' w' ?_ k2);unfold OwnP;rw [zgB,List.length_append];exact k1
def Grew (w:World) (e:Ending) (w':World):Prop:=∃v,e=.returned v∧w'.ownsRow w.heap.size 39 2 v 0 []∧Below w.heap.size w w'
theorem grow_any {w:World} {N:Nat} (hN:N≤1048576):Calls Tryz.prog 77 #[.slice none 0 0,.int .i64 (N:Int)] w (Grew w):=by
 have w0:IntKind.i64.wrap (N:Int)=(N:Int):=by rw [zaA] <;> omega
 have w1:¬((N:Int)<0):=by omega
 by_cases h0:N=0
 ·subst h0
  have FIN:Hid (Grew w (.returned (.slice none 0 0)) w):=⟨_,rfl,World.ownsRow_nil _ _ _ _,Below.refl _ _⟩
  go_enter Tryz.func77,Tryz.ntmps77;go_wp2;go_ret;exact FIN.out
 ·obtain ⟨i,hii,hz,hsz,hby⟩:=info_parts Tryz.infoZ9
  have hrz:=fun wx:World=>Lib.run_append_nil_zeros (P:=Tryz.prog) wx 22 3 22 39 i (.agg #[.bool false,.slice none 0 0]) .i64 .i64 Tryz.underlying22 Tryz.underlying3 hii hz N (by omega) (by omega) (by omega) (by rw [hby];omega)
  have w2:(0:Int)<(N:Int):=by omega
  have hge:=grownCap_ge w N 0 39;have hle:=grownCap_le_maxLen w N 0 39 (by unfold maxLen;omega);have FIN:Hid (Grew w (.returned (.slice (some ⟨w.heap.size,0,none⟩) 0 (grownCap w N 0 39))) (w.drew.alloc (.cells (Builtin.zeroCells (Value.agg #[.bool false,.slice none 0 0]).cells N ++ Builtin.zeroCells (Value.agg #[.bool false,.slice none 0 0]).cells (grownCap w N 0 39-N)) 39))):=by
   refine ⟨_,rfl,World.ownsRow_made (base:=w.heap.size) (size:=2) w.drew _ _ (Nat.le_refl _) hle ?_,((Below.refl _ _).drew).alloc (Nat.le_refl _) _⟩;rw [Array.size_append,size_zeroCells,size_zeroCells];have:(Value.agg #[Value.bool false,Value.slice none 0 0]).cells.size=2:=rfl;rw [this];omega
  go_enter Tryz.func77,Tryz.ntmps77;go_wp2_with (at_builtin;refine Lib.wpList_append_run _ rfl _ _ _ _ rfl _ _ rfl rfl _ _ (hrz _) ?_)
  go_wp2;go_ret;exact FIN.out
def zoH (m:Nat) (pss:List (List (Value×Value))):Prop:=∀ps∈pss,ps.length=m∧∀p∈ps,IsI p
theorem take_flat {α:Type} {m:Nat} {pss:List (List α)} (h:∀ps∈pss,ps.length=m) (i:Nat) (hi:i≤pss.length):(pss.take i).flatten.length=i*m:=by
 induction i with
 | zero=>simp
 | succ i ih =>
  rw [List.take_succ_eq_append_getElem (by omega),List.flatten_append,List.length_append,ih (by omega),List.flatten_cons,List.flatten_nil,List.append_nil,h _ (List.getElem_mem _),Nat.add_mul,Nat.one_mul]
theorem take_flat_succ {α:Type} {pss:List (List α)} {i:Nat} {ps:List α} (h:pss[i]?=some ps):(pss.take (i+1)).flatten=(pss.take i).flatten ++ ps:=by
 obtain ⟨hi,e⟩:=List.getElem?_eq_some_iff.1 h;rw [List.take_succ_eq_append_getElem hi,List.flatten_append,e]
 simp
def CatA (w:World) (n m:Nat) (gk:Nat) (s3 s11:Value) (wx:World):Prop:=∃i:Nat,s3=.int .i64 ((i*m:Nat):Int)∧s11=.int .i64 (i:Int)∧i≤n∧gk=n-i∧wx=w
def CatB (w:World) (n:Nat) (pss:List (List (Value×Value))) (gk:Nat) (s6 s27:Value) (wx:World):Prop:=∃i:Nat,s27=.int .i64 (i:Int)∧i≤n∧gk=n-i∧OwnP w.heap.size wx s6 (pss.take i).flatten∧Below w.heap.size w wx
def zfI (w:World) (ps:List (Value×Value)) (e:Ending) (w':World):Prop:=∃v,e=.returned v∧Prs w.heap.size w' v ps∧Below w.heap.size w w'
theorem grown_below {B:Nat} {w0 w w':World} {v:Value} {n:Nat} {xs:List Value} (hb:Below w0.heap.size w0 w) (h:w.ownsRow w0.heap.size 39 2 v n xs) (hg:w.grownBy w' v.ownBlock):Below w0.heap.size w0 w':=by
 refine hb.trans ⟨hg.os,hg.tape,hg.output,hg.size,fun b hb'=>hg.block b (Nat.lt_of_lt_of_le hb' hb.size) (fun e=>?_)⟩;have:=(World.ownsRow.lt h b e.symm).1;omega
theorem concat_any {w:World} {B m:Nat} {v:Value} {pss:List (List (Value×Value))} (hv:Prr B w v pss) (hm:zoH m pss) (hl:pss.length*m≤1048576) (hm1:m≤1048576) :
  Calls Tryz.prog 61 #[v] w (zfI w pss.flatten):=by
 have V0:=hid hv;have HM:=hid hm;obtain ⟨a0,c0,rfl,hc0,hn0,hf0⟩:=hv.form;have HT:=hid (fun i (hi:i≤pss.length)=>take_flat (fun ps hp=>(hm ps hp).1) i hi);have HFL:Hid (pss.flatten=(pss.take pss.length).flatten):=by unfold Hid;rw [List.take_length]
 obtain ⟨FT,hFT⟩:∃FT,pss.flatten=FT:=⟨_,rfl⟩
 rw [hFT] at HFL ⊢;obtain ⟨n,hn⟩:∃n,pss.length=n:=⟨_,rfl⟩
 rw [hn] at V0 hc0 hn0 hl HFL HT ⊢;have HN:=hid hn;have F0:=hid hf0;clear hv hm hf0 hn hFT;have H0:Hid (CatA w n m n (.int .i64 0) (.int .i64 0) w):=⟨0,by simp,rfl,Nat.zero_le _,by omega,rfl⟩
 go_enter Tryz.func61,Tryz.ntmps61;go_wp2_with fail
 go_loopg [3,11] n (fun gk s3 s11 wx=>CatA w n m gk s3 s11 wx)
 case atStart=>exact H0.out
 case round =>
  clear H0;obtain ⟨i,rfl,rfl,hin,hg,hwx⟩:=hrel;have hwx':=hwx.symm;subst hwx';clear hwx;have HG:=hid hg;clear hg;have him:i*m≤n*m:=Nat.mul_le_mul_right m hin
  by_cases hlt:i<n
  ·have hlt':(i:Int)<(n:Int):=by omega
   obtain ⟨b1,o1,rfl⟩:=F0.out (fun e=>by have:=HN.out;rw [e] at this;simp at this;omega);obtain ⟨u,k0,pu⟩:=V0.out.at (i:=i) (List.getElem?_eq_getElem (by rw [HN.out];exact hlt));obtain ⟨au,cu,hu,-,-,-,-⟩:=pu.form;rw [(HM.out _ (List.getElem_mem (l:=pss) (n:=i) (by rw [HN.out];exact hlt))).1] at hu;subst hu;have hw:=zNA (i:=i) (by omega);have e2:(i+1)*m=i*m+m:=by rw [Nat.add_mul,Nat.one_mul]
   have e3:(i+1)*m≤n*m:=Nat.mul_le_mul_right m hlt;have HN1:Hid (∀lo:Nat,lo=i*m→CatA w n m (n-(i+1)) (.int .i64 ((lo:Int)+(m:Int))) (.int .i64 ((i+1:Nat):Int)) w):=fun lo hlo=>⟨i+1,by rw [e2,hlo];congr 1,rfl,by omega,rfl,rfl⟩
   have HMM:Hid (n-(i+1)<gk):=by unfold Hid;rw [HG.out];omega
   obtain ⟨lo,hlo⟩:∃lo,i*m=lo:=⟨_,rfl⟩
   have HR:=hid (HN1.out lo hlo.symm);have hs:IntKind.i64.wrap ((lo:Int)+(m:Int))=(lo:Int)+(m:Int):=by rw [zaA] <;> omega
   have hs':¬((lo:Int)+(m:Int)<0):=by omega
   rw [hlo];clear HN1 pu HG e2 e3 hlo him;go_wp2_with fail;go_roundg (n-(i+1))
   case rel=>exact HR.out
   case measure=>exact HMM.out
  ·have hlt':¬(i:Int)<(n:Int):=by omega
   obtain rfl:i=n:=by omega
   have HS:=hid (grow_any (w:=w) (N:=i*m) hl);have HNN:=hid hl;clear him hl;obtain ⟨N,hNN⟩:∃N,i*m=N:=⟨_,rfl⟩
   rw [hNN] at HS ⊢;clear HG hNN;go_wp2_with fail;refine HS.out.mono ?_;rintro e w1 ⟨v,rfl,ho,b⟩;have H1:Hid (CatB w i pss i v (.int .i64 0) w1):=⟨0,rfl,Nat.zero_le _,by omega,by simpa [OwnP,flat] using ho,b⟩
   clear HS ho b;go_wp2_with fail
   go_loopg [6,27] i (fun gk s6 s27 wx=>CatB w i pss gk s6 s27 wx)
   case atStart=>exact H1.out
   case round =>
    clear H1;obtain ⟨j,rfl,hjn,hg,ho,hG⟩:=hrel;have OW:=hid ho;have G:=hid hG;have HG:=hid hg;clear ho hG hg
    by_cases hlt2:j<i
    ·have hlt2':(j:Int)<(i:Int):=by omega
     obtain ⟨b1,o1,rfl⟩:=F0.out (fun e=>by have:=HN.out;rw [e] at this;simp at this;omega);obtain ⟨u,k0,pu⟩:=(V0.out.now G.out).at (i:=j) (List.getElem?_eq_getElem (by rw [HN.out];exact hlt2));have hpj:pss[j]?=some (pss[j]'(by rw [HN.out];exact hlt2)):=List.getElem?_eq_getElem (by rw [HN.out];exact hlt2);have HM1:=hid (HM.out _ (List.getElem_mem (l:=pss) (n:=j) (by rw [HN.out];exact hlt2)));have HTS:=hid (take_flat_succ hpj);obtain ⟨ps,hps⟩:∃ps,pss[j]'(by rw [HN.out];exact hlt2)=ps:=⟨_,rfl⟩
     rw [hps] at pu HM1 HTS;have HLN:Hid ((pss.take j).flatten.length+ps.length≤1048576):=by
      unfold Hid;have:=HT.out (j+1) (by omega);rw [HTS.out,List.length_append] at this;have h2:(j+1)*m≤i*m:=Nat.mul_le_mul_right m hlt2;have h3:=HNN.out;omega
     have PU:=hid pu;obtain ⟨au,cu,rfl,-,-,-,-⟩:=pu.form;have hw:=zNA (i:=j) (by omega);clear hpj hps pu;go_wp2_with (at_builtin;refine wpList_append_pairs _ rfl (.tmp 31) (.tmp 32) rfl w.heap.size _ _ (pss.take j).flatten ps rfl OW.out rfl B PU.out HM1.out.2 HLN.out G.out.size ?_)
     intro v2 w2 ho2 hg2;have HN1:Hid (CatB w i pss (i-(j+1)) v2 (.int .i64 ((j+1:Nat):Int)) w2):=⟨j+1,rfl,by omega,rfl,by rw [HTS.out];exact ho2,grown_below (B:=0) G.out OW.out hg2.out⟩
     have HMM:Hid (i-(j+1)<gk):=by unfold Hid;rw [HG.out];omega
     clear OW G HG ho2 hg2 HTS HLN PU HM1 k0;go_wp2_with fail;go_roundg (i-(j+1))
     case rel=>exact HN1.out
     case measure=>exact HMM.out
    ·have hlt2':¬(j:Int)<(i:Int):=by omega
     obtain rfl:j=i:=by omega
     rw [←HFL.out] at OW;have FIN:Hid (∀v6,OwnP w.heap.size wr v6 FT→zfI w FT (.returned v6) wr):=fun v6 h=>⟨v6,rfl,zzB h (by have h1:=HT.out j (Nat.le_refl _);rw [←HFL.out] at h1;have:=HNN.out;omega),G.out⟩
     have FIN2:=hid (FIN.out _ OW.out);clear FIN OW G HG;go_wp2;go_ret;exact FIN2.out
theorem zhF {f:Func} {s:Nat} (hr:f.results=#[ResultVar.cell s 24]) {W:World} {b:Nat} {x0 x1 x2:Value} (h:Cel W b 24 [x0,x1,x2]) (tmps:Array Value) (ht:tmps[s]?=some (.pointer (some ⟨b,0,none⟩))) :
  (results f tmps).run Tryz.prog W=.ok (.agg #[x0,x1,x2]) W:=by
 simp [results,hr,go_sem,ht,h.at (i:=0) rfl,h.at (i:=1) rfl,h.at (i:=2) rfl]
theorem zIC {f:Func} {s1 s3:Nat} (hr:f.results=#[ResultVar.cell s1 24,ResultVar.tmp s3]) {W:World} {b:Nat} {x0 x1 x2 e:Value} (h:Cel W b 24 [x0,x1,x2]) (tmps:Array Value) (ht:tmps[s1]?=some (.pointer (some ⟨b,0,none⟩))) (he:tmps[s3]?=some e) :
  (results f tmps).run Tryz.prog W=.ok (.tuple #[.agg #[x0,x1,x2],e]) W:=by
 simp [results,hr,go_sem,ht,he,h.at (i:=0) rfl,h.at (i:=1) rfl,h.at (i:=2) rfl]
abbrev put3 (w:World) (b:Nat) (y0 y1 y2:Value):World:=((w.setCell ⟨b,0,none⟩ y0).setCell ⟨b,1,none⟩ y1).setCell ⟨b,2,none⟩ y2
theorem Cel.put3 {w:World} {b:Nat} {T:TypeId} {x0 x1 x2:Value} (h:Cel w b T [x0,x1,x2]) (y0 y1 y2:Value):Cel (put3 w b y0 y1 y2) b T [y0,y1,y2]:=((h.set 0 y0).set 1 y1).set 2 y2
theorem zSA {B b:Nat} {w0 w:World} (h:Below B w0 w) (hb:B≤b) (y0 y1 y2:Value):Below B w0 (Go.Proofs.YtjnokjgbeploaaaGreat.put3 w b y0 y1 y2):=bset (bset (bset h hb) hb) hb
theorem Prs.put3 {B b:Nat} {w:World} {v:Value} {ps:List (Value×Value)} (h:Prs B w v ps) (hb:b<B) (y0 y1 y2:Value):Prs B (Go.Proofs.YtjnokjgbeploaaaGreat.put3 w b y0 y1 y2) v ps:=((h.off hb).off hb).off hb
def NoWs (L:List Value):Prop:=∀u∈L,NoW u
theorem noWs_mat (r c:Int) (a:Option Addr) (l n:Nat):NoWs [.int .i64 r,.int .i64 c,.slice a l n]:=by
 intro u hu x e;simp at hu;rcases hu with rfl | rfl | rfl <;> simp at e
theorem Cel.wk3 {w:World} {b:Nat} {T:TypeId} {r c:Int} {a:Option Addr} {l n:Nat} (h:Cel w b T [.int .i64 r,.int .i64 c,.slice a l n]) (y0 y1 y2:Value):Wk w (Go.Proofs.YtjnokjgbeploaaaGreat.put3 w b y0 y1 y2):=by
 have q:=noWs_mat r c a l n;exact ((h.wk (i:=0) rfl (q _ (by simp)) y0).trans ((h.set 0 y0).wk (i:=1) rfl (q _ (by simp)) y1)).trans (((h.set 0 y0).set 1 y1).wk (i:=2) rfl (q _ (by simp)) y2)
end Go.Proofs.YtjnokjgbeploaaaGreat
