/-
 QIp18ToOr18: Ip18, Ha18, Ca18, Le18, Re18, Rb18, Bk18, Lr18, Se18, Or18, joined.
-/
import Derived.Test.YtjjpodnjljfheaaGreatQSt18ToIo18
import Derived.Lib.JoinLaws
import Derived.Test.YtjjpodnjljfheaaGreatQExt6
import Derived.Test.YtjjpodnjljfheaaGreatQLm6ToWk9

set_option maxRecDepth 100000
set_option maxHeartbeats 6400000
set_option linter.unusedVariables false
set_option linter.unusedSimpArgs false
namespace Go.Proofs.YtjjpodnjljfheaaGreat
open Go.RowKit Go.Shelf Go.Lib
theorem insert_grow18 {B r vb x y p Bp:Nat} {w:World} {t:List Value} {ρ γ:Nat→Nat} (hp:p<r) (hr:r<64) (hB:B≤w.heap.size) (hc:Cel w Bp 105 (sc18 r ρ γ ++ t))
  (hv:Cel w vb 105 [.int .i64 (x:Int),.int .i64 (y:Int)]) :
  Calls Tryz.prog 76 #[.slice (some ⟨Bp,0,none⟩) r r,.int .i64 (p:Int),.slice (some ⟨vb,0,none⟩) 1 1] w (zvG B w (.slice (some ⟨Bp,0,none⟩) r r) (r+1) (insF p x ρ) (insF p y γ)):=by
 obtain ⟨i0,hi0,hz0,hzs,hzb⟩:=info_parts zkF;have hsz:(Tryz.prog.info? 105).map (·.size)=some 2:=by rw [hi0];simp [hzs]
 obtain ⟨cs,hcs⟩:∃cs,cs=sc18 r ρ γ:=⟨_,rfl⟩
 have hcl:cs.length=r*2:=by rw [hcs,ziA]
 rw [←hcs] at hc;have hbw:=hc.blk;have hvw:=hv.blk;have hone:∀v∈cs,v.oneCell'=true:=by rw [hcs];exact zDH r ρ γ
 have hcell:∀j v,cs[j]?=some v→w.cell? ⟨Bp,j,none⟩=some v:=fun j v hj=>hc.at (by rw [List.getElem?_append_left (List.getElem?_eq_some_iff.1 hj).1];exact hj)
 have hold:(Builtin.firstCells i0.size p (.slice (some ⟨Bp,0,none⟩) p r)).run Tryz.prog w.drew=.ok (cs.take (p*2)).toArray w.drew:=by
  rw [hzs];exact run_firstCells_some w.drew 2 p ⟨Bp,0,none⟩ p r (cs.take (p*2)) (by rw [List.length_take];omega) (fun j v hj=>by
   rw [Addr.add_lit,Nat.zero_add];rw [List.getElem?_take] at hj
   split at hj
   ·exact hcell j v hj
   ·cases hj)
 obtain ⟨G,hG⟩:∃G,grownCap w (r+1) r 105=G:=⟨_,rfl⟩
 have hGn:r+1≤G:=by rw [←hG];exact grownCap_ge w _ _ _
 have hG63:G≤maxLen:=by rw [←hG];exact grownCap_le_maxLen w (r+1) r 105 (by unfold maxLen;omega)
 obtain ⟨Z,hZ⟩:∃Z:Array Value,Builtin.zeroCells (Value.agg #[.int .i64 0,.int .i64 0]).cells (r+1-p) ++ Builtin.zeroCells (Value.agg #[.int .i64 0,.int .i64 0]).cells (G-(r+1))=Z:=⟨_,rfl⟩
 have hZs:Z.size=(r+1-p)*2+(G-(r+1))*2:=by
  have hz:∀k,(Builtin.zeroCells (Value.agg #[.int .i64 0,.int .i64 0]).cells k).size=k*2:=fun k=>by
   simp [Builtin.zeroCells,Value.cells]
  rw [←hZ,Array.size_append,hz,hz]
 obtain ⟨cur0,hcur0⟩:∃cur0:Array Value,(cs.take (p*2)).toArray ++ Z=cur0:=⟨_,rfl⟩
 have hrz:∀ty,(Builtin.append_ #[64,3] ty #[.slice (some ⟨Bp,0,none⟩) p r,.int .i64 ((r+1-p:Nat):Int)]).run Tryz.prog w=.ok (.slice (some ⟨w.heap.size,0,none⟩) (r+1) G) (w.drew.alloc (.cells cur0 105)):=fun ty=>by
  have h:=Lib.run_append_grow_zeros w 64 3 ty 105 i0 _ .i64 .i64 Tryz.underlying64 Tryz.underlying3 hi0 hz0 (some ⟨Bp,0,none⟩) p r (cs.take (p*2)) hold (r+1-p) (by omega) (by omega) (by omega) (by omega) (by rw [hzb];omega) (by rw [hzb,show p+(r+1-p)=r+1 by omega];exact growslice_fits (by omega) (by omega));rw [show p+(r+1-p)=r+1 by omega,hG,Array.append_assoc,hZ,hcur0] at h;exact h
 have hs0:cur0.size=G*2:=by rw [←hcur0,Array.size_append,hZs];simp [hcl];omega
 obtain ⟨W1,hW1⟩:∃W1,w.drew.alloc (.cells cur0 105)=W1:=⟨_,rfl⟩
 have hg0:W1.heap[w.heap.size]?=some (.cells cur0 105 (0,0)):=by rw [←hW1];exact World.alloc_heap_new w.drew _
 have bw1:Below w.heap.size w W1:=by rw [←hW1];exact (((Below.refl _ w).drew).alloc (Nat.le_refl _) _)
 obtain ⟨cur1,hcur1⟩:∃cur1:Array Value,cur1=(cur0.toList.take (p*2) ++ [Value.int .i64 (x:Int),Value.int .i64 (y:Int)] ++ cur0.toList.drop (p*2+2)).toArray:=⟨_,rfl⟩
 have hs1:cur1.size=G*2:=by rw [hcur1];simp [hs0];omega
 have hvc:Cel W1 vb 105 [.int .i64 (x:Int),.int .i64 (y:Int)]:=hv.step bw1;have hcpA:∀W:World,W.heap=W1.heap→∀ty dc,(Builtin.copy_ #[64,64] ty #[.slice (some ⟨w.heap.size,p*2,none⟩) (r+1-p) dc,.slice (some ⟨vb,0,none⟩) 1 1]).run Tryz.prog W=.ok (goInt ((1:Nat):Int)) (W.setRow w.heap.size cur1):=fun W hW ty dc=>by
  have h:=zXB (P:=Tryz.prog) W 64 64 ty 105 w.heap.size (p*2) (r+1-p) dc ⟨vb,0,none⟩ 1 1 cur0 105 [Value.int .i64 (x:Int),Value.int .i64 (y:Int)] 1 Tryz.underlying64 hsz (by rw [hW];exact hg0) (by simp only [Nat.min_def];split <;> omega) rfl
   (fun j v hj=>by
    rw [Addr.add_lit,Nat.zero_add];have:=hvc.at hj;simp only [World.cell?,hW] at this ⊢;exact this)
   (by simp [hs0];omega) (by intro u hu;simp at hu;rcases hu with rfl | rfl <;> rfl)
  rw [h];simp only [List.length_cons,List.length_nil,Nat.zero_add,Nat.reduceAdd];rw [←hcur1]
 obtain ⟨W2,hW2⟩:∃W2,W1.setRow w.heap.size cur1=W2:=⟨_,rfl⟩
 have hg1:W2.heap[w.heap.size]?=some (.cells cur1 105 (0,0)):=by rw [←hW2];exact setRow_heap W1 w.heap.size cur0 cur1 _ _ hg0
 have hc2:Cel W2 Bp 105 (cs ++ t):=by
  rw [←hW2]
  show (W1.setRow w.heap.size cur1).heap[Bp]?=_
  unfold World.setRow;rw [Array.getElem?_modify,if_neg (by omega)];exact hc.step bw1
 have hdl:(cs.drop (p*2)).length=(r-p)*2:=by rw [List.length_drop,hcl];omega
 obtain ⟨cur2,hcur2⟩:∃cur2:Array Value,cur2=(cur1.toList.take ((p+1)*2) ++ cs.drop (p*2) ++ cur1.toList.drop ((p+1)*2+(cs.drop (p*2)).length)).toArray:=⟨_,rfl⟩
 have hlen2:cur2.size=G*2:=by rw [hcur2];simp [hs1,hdl];omega
 have hcpB:∀W:World,W.heap=W2.heap→∀ty dc sc,(Builtin.copy_ #[64,64] ty #[.slice (some ⟨w.heap.size,(p+1)*2,none⟩) (r-p) dc,.slice (some ⟨Bp,p*2,none⟩) (r-p) sc]).run Tryz.prog W=.ok (goInt ((r-p:Nat):Int)) (W.setRow w.heap.size cur2):=fun W hW ty dc sc=>by
  have h:=zXB (P:=Tryz.prog) W 64 64 ty 105 w.heap.size ((p+1)*2) (r-p) dc ⟨Bp,p*2,none⟩ (r-p) sc cur1 105 (cs.drop (p*2)) (r-p) Tryz.underlying64 hsz (by rw [hW];exact hg1) (by simp only [Nat.min_def];split <;> omega) hdl
   (fun j v hj=>by
    rw [Addr.add_lit];rw [List.getElem?_drop] at hj;have hjl:=(List.getElem?_eq_some_iff.1 hj).1;have:=hc2.at (i:=p*2+j) (v:=v) (by rw [List.getElem?_append_left hjl];exact hj);simp only [World.cell?,hW] at this ⊢;exact this)
   (by rw [hdl,hs1];omega) (fun v hv=>hone v (List.mem_of_mem_drop hv))
  rw [h,←hcur2]
 have hfin:cur2.toList=sc18 (r+1) (insF p x ρ) (insF p y γ) ++ cur2.toList.drop ((r+1)*2):=by
  obtain ⟨d,hd⟩:∃d,r=p+d:=⟨r-p,by omega⟩
  have e:=zFE (p:=p) (x:=x) (y:=y) (ρ:=ρ) (γ:=γ) d;rw [←hd,←hcs] at e;rw [e];have e0:cur0.toList=cs.take (p*2) ++ Z.toList:=by rw [←hcur0];simp
  have l0:(cs.take (p*2)).length=p*2:=by rw [List.length_take];omega
  have e1:cur1.toList=cs.take (p*2) ++ [Value.int .i64 (x:Int),Value.int .i64 (y:Int)] ++ cur0.toList.drop (p*2+2):=by
   rw [hcur1,e0,List.take_append_of_le_length (by omega),List.take_take,Nat.min_self]
  have l1:(cs.take (p*2) ++ [Value.int .i64 (x:Int),Value.int .i64 (y:Int)]).length=(p+1)*2:=by simp [l0];omega
  have t1:cur1.toList.take ((p+1)*2)=cs.take (p*2) ++ [Value.int .i64 (x:Int),Value.int .i64 (y:Int)]:=by rw [e1,←l1,List.take_left]
  obtain ⟨Y,hY⟩:∃Y,cur1.toList.drop ((p+1)*2+(cs.drop (p*2)).length)=Y:=⟨_,rfl⟩
  have e2:cur2.toList=(cs.take (p*2) ++ [Value.int .i64 (x:Int),Value.int .i64 (y:Int)] ++ cs.drop (p*2)) ++ Y:=by rw [hcur2,t1,hY]
  have l3:(cs.take (p*2) ++ [Value.int .i64 (x:Int),Value.int .i64 (y:Int)] ++ cs.drop (p*2)).length=(r+1)*2:=by rw [List.length_append,l1,hdl];omega
  rw [e2,←l3,List.drop_left]
 have FIN:Hid (∀W:World,W.heap=(W2.setRow w.heap.size cur2).heap→W.os=w.os→W.tape=w.tape→W.output=w.output→zvG B w (.slice (some ⟨Bp,0,none⟩) r r) (r+1) (insF p x ρ) (insF p y γ) (.returned (.slice (some ⟨w.heap.size,0,none⟩) (r+1) G)) W):=fun W h1 h2 h3 h4=>by
  have ht:Touch (fun b=>(Value.slice (some ⟨Bp,0,none⟩) r r).ownBlock=some b) w (W2.setRow w.heap.size cur2):=by
   rw [←hW2];exact zWB (zWB (Touch.ofBelow bw1) (.inl (Nat.le_refl _)) _) (.inl (Nat.le_refl _)) _
  refine ⟨_,rfl,.inr ⟨by omega,w.heap.size,G,cur2.toList.drop ((r+1)*2),rfl,hGn,hB,hG63,by simp [hlen2];omega,?_⟩,⟨h2,h3,h4,by rw [h1];exact ht.size,fun b hb hn=>by rw [h1];exact ht.block b hb hn⟩⟩;rw [←hfin]
  show W.heap[w.heap.size]?=_
  rw [h1];have:=setRow_heap W2 w.heap.size cur1 cur2 _ _ hg1;rw [this]
 have hz2:¬((p:Int)=(r:Int)):=by omega
 have hz3:(r:Int)<(r:Int)+1:=by omega
 have hw1:IntKind.i64.wrap ((p:Int)+1)=(p:Int)+1:=by rw [IntKind.wrap_i64];omega
 have hw2:IntKind.i64.wrap ((r:Int)+1)=(r:Int)+1:=by rw [IntKind.wrap_i64];omega
 have hw3:IntKind.i64.wrap ((r:Int)+1-(p:Int))=((r+1-p:Nat):Int):=by rw [IntKind.wrap_i64];omega
 have htn:((p:Int)+1).toNat=p+1:=by omega
 have hb1:(0:Int)≤(p:Int)+1:=by omega
 have hpr:(p:Int)≤(r:Int):=by omega
 have hpr2:(p:Int)≤(r:Int)+1:=by omega
 have hpr3:(p:Int)+1≤(r:Int)+1:=by omega
 have hpr4:p≤r:=by omega
 have hpr5:p≤r+1:=by omega
 have hb2:¬(G=p+1):=by omega
 have hb3:¬(G=p):=by omega
 have hb4:¬(r=p):=by omega
 have hrz':=hrz 64;have hqA:=hcpA ((w.alloc (.cells cur0 105)).drew) (by rw [←hW1];rfl) 3 (G-p);have hqB:=hcpB ((((w.alloc (.cells cur0 105)).drew).setRow w.heap.size cur1).drew) (by rw [←hW2,←hW1];rfl) 3 (G-(p+1)) (r-p);have EW:Hid ((W2.setRow w.heap.size cur2).heap=(((((w.alloc (.cells cur0 105)).drew).setRow w.heap.size cur1).drew).setRow w.heap.size cur2).heap):=by unfold Hid;rw [←hW2,←hW1];rfl
 clear hc hv hcs hcl hbw hvw hone hcell hold hG hZ hZs hcur0 hs0 hW1 hg0 bw1 hcur1 hs1 hvc hcpA hW2 hg1 hc2 hdl hcur2 hlen2 hcpB hfin hrz hi0 hz0 hzs hzb hsz;go_enter Tryz.func76,Tryz.ntmps76;go_wp2_with (at_builtin;refine Lib.wpList_append_run _ rfl _ _ _ _ rfl _ _ rfl rfl _ _ hrz' ?_)
 go_region;go_wp2;go_ret;exact FIN.out _ EW.out.symm rfl rfl rfl
end Go.Proofs.YtjjpodnjljfheaaGreat
namespace Go.Proofs.YtjjpodnjljfheaaGreat
open Go.RowKit
attribute [local go_sem] zCD
theorem exch_same18 {w:World} {bs i:Nat} (hi:i≤64):Calls Tryz.prog 78 #[.pointer (some ⟨bs,0,none⟩),.int .i64 (i:Int),.int .i64 (i:Int)] w fun e w'=>e=.returned (.tuple #[])∧w'=w:=by
 go_enter Tryz.func78,Tryz.ntmps78;go_wp2;refine bodyPost_ret (results_none rfl _ _ _) rfl ?_;exact ⟨rfl,rfl⟩
end Go.Proofs.YtjjpodnjljfheaaGreat
namespace Go.Proofs.YtjjpodnjljfheaaGreat
open Go.RowKit
def Mq18 (W wx:World) (s1 s2:Value) (z1 z2:Int) (k:Nat):Prop :=
 ∃b1 b2 n1 a1 l1 c1 n2 a2 l2 c2,s1=.pointer (some ⟨b1,0,none⟩)∧s2=.pointer (some ⟨b2,0,none⟩)∧W.heap.size≤b1∧W.heap.size≤b2∧Duo wx b1 (.bool n1) (.slice a1 l1 c1)∧Duo wx b2 (.bool n2) (.slice a2 l2 c2)
  ∧ Zm 0 wx (.agg #[.bool n1,.slice a1 l1 c1]) z1 k∧Zm 0 wx (.agg #[.bool n2,.slice a2 l2 c2]) z2 k∧Below W.heap.size W wx
def Mo18 (W wx:World) (s1:Value) (z1:Int) (k:Nat):Prop :=
 ∃b1 n1 a1 l1 c1,s1=.pointer (some ⟨b1,0,none⟩)∧W.heap.size≤b1∧Duo wx b1 (.bool n1) (.slice a1 l1 c1)∧Zm 0 wx (.agg #[.bool n1,.slice a1 l1 c1]) z1 k∧Below W.heap.size W wx
theorem zND {a g:Int} (h:g ∣ a) (h0:g≠0):(a.tdiv g).natAbs≤a.natAbs∧a=g*a.tdiv g:=by
 obtain ⟨q,rfl⟩:=h;rw [Int.mul_tdiv_cancel_left _ h0];refine ⟨?_,rfl⟩;rw [Int.natAbs_mul];have:1*q.natAbs≤g.natAbs*q.natAbs:=Nat.mul_le_mul_right _ (by omega);omega
theorem Lv18.mixE {n i r c p T:Nat} {ρ γ:Nat→Nat} {X A:Nat→Nat→Int} (h:Lv18 n i r ρ γ X A c p T) (hp:p<r) (hc:γ p=c) (hn0:X i c≠0) {g x y:Int} (hv:ExtV (X (ρ p) c) (X i c) g x y) :
  0<g∧(X i c).tmod g=0∧(X (ρ p) c).tmod g=0∧Lv18 n i r ρ γ (mixX X (ρ p) i x y (-((X i c).tdiv g)) ((X (ρ p) c).tdiv g)) A (c+1) (p+1) T∧x.natAbs≤bd18 T p∧y.natAbs≤bd18 T p∧((X i c).tdiv g).natAbs≤bd18 T p∧((X (ρ p) c).tdiv g).natAbs≤bd18 T p:=by
 have hp0:=h.ec.pos p hp;have hcn:=h.ec.cl p hp;rw [hc] at hp0 hcn;have d1:g ∣ X (ρ p) c:=by rw [hv.gcd];exact Int.gcd_dvd_left _ _
 have d2:g ∣ X i c:=by rw [hv.gcd];exact Int.gcd_dvd_right _ _
 have g0:0<g:=by
  rw [hv.gcd];have:=Int.gcd_pos_of_ne_zero_left (X i c) (show X (ρ p) c≠0 by omega);omega
 obtain ⟨e1,e2⟩:=zND d1 (by omega);obtain ⟨e3,e4⟩:=zND d2 (by omega);obtain ⟨s1,s2,-⟩:=hv.small;have b2:=h.b2 p c (Nat.le_refl _) hp hcn;have b3:=h.b3 c hcn;have bT:=zXG h.one p;obtain ⟨P,hP⟩:∃P,X (ρ p) c=P:=⟨_,rfl⟩
 obtain ⟨N,hN⟩:∃N,X i c=N:=⟨_,rfl⟩
 obtain ⟨u,hu⟩:∃u,N.tdiv g=u:=⟨_,rfl⟩
 obtain ⟨v,hv'⟩:∃v,P.tdiv g=v:=⟨_,rfl⟩
 have hl:=hv.lin;rw [hP,hN] at hl;have tm1:(X i c).tmod g=0:=Int.tmod_eq_zero_of_dvd d2;have tm2:(X (ρ p) c).tmod g=0:=Int.tmod_eq_zero_of_dvd d1;rw [hP] at e1 e2 s2 b2 hp0 tm2;rw [hN] at e3 e4 s1 b3 hn0 tm1;rw [hv'] at e1 e2;rw [hu] at e3 e4;have hdet:x*v-y*(-u)=1:=by
  refine Int.eq_of_mul_eq_mul_left (show g≠0 by omega) ?_;have:g*(x*v-y * -u)=(g*v)*x+(g*u)*y:=by grind
  rw [this,←e2,←e4,hl,Int.mul_one]
 refine ⟨g0,by rw [hN];exact tm1,by rw [hP];exact tm2,?_,by omega,by omega,by rw [hN,hu];omega,by rw [hP,hv'];omega⟩;rw [hN,hP,hu,hv'];refine h.mix hp hc hdet ?_ ?_ (by omega) (by rw [Int.natAbs_neg];omega) (by omega) (by omega)
 ·rw [hP,hN,e2,e4]
  have : -u*(g*v)+v*(g*u)=0:=by grind
  rw [←e2,←e4] at this ⊢;exact this
 ·rw [hP,hN]
  have:x*P+y*N=g:=by rw [←hl];grind
  omega
theorem zzF {f:Func} {s1 s2 s3:Nat} (hr:f.results=#[ResultVar.tmp s1,ResultVar.tmp s2,ResultVar.tmp s3]) {W:World} {u v x:Value} (tmps:Array Value) (hu:tmps[s1]?=some u) (hv:tmps[s2]?=some v) (hx:tmps[s3]?=some x):(results f tmps).run Tryz.prog W=.ok (.tuple #[u,v,x]) W:=by
 simp [results,hr,go_sem,hu,hv,hx]
theorem fdv_ediv18 {z p:Int} (hp:0<p):fdv z p=z / p:=by
 have e:=Int.mul_tdiv_add_tmod z p;have c2:cmpI p 0=1:=by unfold cmpI;split <;> (try split) <;> omega
 have l1:=Int.tmod_lt_of_pos z hp;have l2 : -p<z.tmod p:=by
  have:=Int.tmod_lt_of_pos (-z) hp;rw [Int.neg_tmod] at this;omega
 unfold fdv;rw [c2,Int.mul_one]
 by_cases q:z.tmod p<0
 ·have:cmpI (z.tmod p) 0<0:=by unfold cmpI;split <;> (try split) <;> omega
  rw [if_pos this];have:=(Int.ediv_emod_unique (a:=z) (b:=p) (r:=z.tmod p+p) (q:=z.tdiv p-1) hp).2 ⟨by rw [Int.mul_sub];omega,by omega,by omega⟩;omega
 ·have:¬cmpI (z.tmod p) 0<0:=by unfold cmpI;split <;> (try split) <;> omega
  rw [if_neg this];have:=(Int.ediv_emod_unique (a:=z) (b:=p) (r:=z.tmod p) (q:=z.tdiv p) hp).2 ⟨by omega,by omega,by omega⟩;omega
theorem isReduced18 {w:World} {n n':Bool} {a a':Option Addr} {l l' c c':Nat} {z y:Int} {k:Nat} (h:Zm 0 w (.agg #[.bool n,.slice a l c]) z k) (h':Zm 0 w (.agg #[.bool n',.slice a' l' c']) y k):Calls Tryz.prog 120 #[.agg #[.bool n,.slice a l c],.agg #[.bool n',.slice a' l' c']] w fun e w'=>e=.returned (.bool (decide (0≤z∧z<y)))∧Below w.heap.size w w':=by
 obtain ⟨W0,hW0⟩:∃W0,(w.alloc (duo (.bool n) (.slice a l c))).alloc (duo (.bool n') (.slice a' l' c'))=W0:=⟨_,rfl⟩
 obtain ⟨b0,sz0⟩:=zXA w (duo (.bool n) (.slice a l c)) (duo (.bool n') (.slice a' l' c'));rw [hW0] at b0 sz0;have p0:Duo W0 (w.heap.size) (.bool n) (.slice a l c):=by rw [←hW0];exact zCA (zFA (by simp)) _
 have p1:Duo W0 (w.heap.size+1) (.bool n') (.slice a' l' c'):=by rw [←hW0];exact zFA (by simp)
 have HS:=hid (zFB (h.now b0).zi);have Z0:=hid (h.now b0);have Z1:=hid (h'.now b0);have B0:=hid b0;have D0:=hid p0;have D1:=hid p1;have i0:=p0.c0;have i1:=p0.c1;have EW:=hid hW0;rw [←hW0] at i0 i1;obtain ⟨sd,hsd⟩:∃sd,decide (0≤z∧z<y)=sd:=⟨_,rfl⟩
 have HSD:=hid hsd;rw [hsd];have hsz:cmpI z 0 = -1∧z<0∨0≤cmpI z 0∧0≤z:=by unfold cmpI;split <;> (try split) <;> omega
 obtain ⟨sg,hsg⟩:∃sg,cmpI z 0=sg:=⟨_,rfl⟩
 rw [hsg] at hsz HS;have HSZ:=hid hsz;clear h h' b0 sz0 p0 p1 hW0 hsd hsg hsz;go_enter Tryz.func120,Tryz.ntmps120;go_upto_region 1 with fail
 rw [EW.out];rw [EW.out] at i0 i1;go_wp2_with fail;refine HS.out.mono ?_;rintro e w1 ⟨rfl,b⟩;rcases HSZ.out with ⟨hq,hz⟩ | ⟨hq,hz⟩
 ·subst hq
  have FF:Hid (false=sd∧Below w.heap.size w w1):=⟨by rw [←HSD.out];exact (decide_eq_false (by omega)).symm,below_step B0.out b⟩
  clear HS b hz HSD HSZ EW i0 i1;go_wp2;go_ret;exact ⟨by rw [FF.out.1];rfl,FF.out.2⟩
 ·have hq2:(0:Int)≤sg:=hq
  have HC:=hid (cmp_z (Z0.out.now b).zi (Z1.out.now b).zi);have j0:=(D0.out.step b).c0;have j1:=(D0.out.step b).c1;have k0:=(D1.out.step b).c0;have k1:=(D1.out.step b).c1;have hcy:cmpI z y = -1∧z<y∨0≤cmpI z y∧¬z<y:=by unfold cmpI;split <;> (try split) <;> omega
  obtain ⟨cy,hcye⟩:∃cy,cmpI z y=cy:=⟨_,rfl⟩
  rw [hcye] at hcy HC;have HCY:=hid hcy;have BB:=hid b;have HZ:=hid hz;clear HS b hz HSZ EW i0 i1 hcy hcye hq;go_wp2_with fail;refine HC.out.mono ?_;rintro e w2 ⟨rfl,b⟩;rcases HCY.out with ⟨hq,hl⟩ | ⟨hq,hl⟩
  ·subst hq
   have FF:Hid (true=sd∧Below w.heap.size w w2):=⟨by rw [←HSD.out];exact (decide_eq_true ⟨HZ.out,hl⟩).symm,below_step (below_step B0.out BB.out) b⟩
   clear HC b hl HSD HCY BB HZ j0 j1 k0 k1;go_wp2;go_ret;exact ⟨by rw [FF.out.1];rfl,FF.out.2⟩
  ·have hq3:¬cy<0:=by omega
   have FF:Hid (false=sd∧Below w.heap.size w w2):=⟨by rw [←HSD.out];exact (decide_eq_false (by omega)).symm,below_step (below_step B0.out BB.out) b⟩
   clear HC b hl HSD HCY BB HZ j0 j1 k0 k1 hq;go_wp2;go_ret;have q0:decide (cy<0)=sd:=by rw [←FF.out.1];exact decide_eq_false (by omega)
   exact ⟨by rw [←q0];rfl,FF.out.2⟩
theorem Lw18.pw {m n K r T a b kw:Nat} {ρ γ:Nat→Nat} {X A:Nat→Nat→Int} (h:Lw18 m n K r ρ γ X A T a b) (hTb:Tb18 m n A T) (hb:b≤a+65) (hT:((bd18 T 128:Nat):Int)<Proofs.YtjjpodnjljfheaaGreat.pw kw):∀t j,t<K→j<n→((X t j).natAbs:Int)<Proofs.YtjjpodnjljfheaaGreat.pw kw:=fun t j ht hj=>by
 have a:=h.any hTb hb t j ht hj;omega
open Go.RowKit Go.Shelf
theorem rangeB18 {σ α:Type} {P:Program} {n:Nat} {g:Operand} {ps:Array Tmp} {assign body:Code} {Q:Exit→Act→World→Prop} {a:Act} {w:World}
  (h1:1≤n) {gf:Nat} {lb:Array Value} (hg:a.eval g=.func (.func gf) #[] lb) (eg:∀args w,(callFunc gf args).run P w=.ok (.enter gf args) w)
  (enc:α→Array Value) (hps:∀x,(enc x).size=ps.size)
  (J:σ→World→Prop) (hJ:OwnFrom w.heap.size J) (At:σ→α→World→Prop) (hAt:∀s x,OwnFrom w.heap.size (fun (_:Unit) W=>At s x W)) (nx:σ→α→σ)
  (Kp:σ→World→World→Prop) (hKt:∀ {s:σ} {A B C:World},Kp s A B→Kp s B C→Kp s A C) (hKb:∀(s:σ) (W:World) (l:Nat) (o o':Obj),w.heap.size≤l→W.heap[l]?=some o→o.isCells=false→Kp s W (W.putObj l o'))
  (Ini Fin:σ→Prop) (h0:∀s,Ini s→J s w)
  (hit:∀(l:Nat) (J':σ→World→Prop) (W:World),Below w.heap.size w W→(∀s X,J' s X→J s X)→(∀s A B,J' s A→Below A.heap.size A B→J' s B)→(∀s,Ini s→J' s W) →
   (∀s x X,J' s X→At s x X→YieldAt Fence.wide (n-1-1) P l (enc x) X fun e Y=>e=.returned (.bool true)∧J' (nx s x) Y∧Kp s X Y) →
   CallsIn Fence.wide (n-1) P gf (#[.func (.yield l) #[] #[]] ++ lb) W fun e Y=>(∃v,e=.returned v)∧∃s,Fin s∧J' s Y)
  (hKa:∀(s:σ) (W:World) (o:Obj),Kp s W (W.alloc o)) (ob:α→Obj) (a₁:α→Nat→Act) (hassign:∀(l:Nat) (x:α) (W:World) (K:Act→World→Prop),K (a₁ x W.heap.size) (W.alloc (ob x)) →
   assign.wpIn (Fence.wide.inRound l) (n-1-1) P (Exit.then K (fun _ _ _=>False)) { tmps:=(ps.zip (enc x)).foldl (fun t (p,v)=>t.setIfInBounds p v) a.tmps,defers:=[] } W)
  (hbody:∀(l:Nat) (s:σ) (x:α) (bq:Nat) (W:World),J s W→At s x W→W.heap[bq]?=some (ob x)→w.heap.size+2≤bq→body.wpIn (Fence.wide.inRound l) (n-1-1) P (fun e _ Y=>e=.normal∧KeepsFrom w.heap.size W Y∧J (nx s x) Y∧Kp s W Y) (a₁ x bq) W)
  (hdone:∀(D:Nat) (s:σ) (W:World),w.heap.size≤D→Fin s→J s W→W.heap[D]?=some (.deferred (some []))→Q .normal { a with defers:={ target:=.collected D,args:=#[] } :: a.defers } W) :
  (Code.rangeFunc g ps assign body).wpIn Fence.wide n P Q a w:=by
 refine wpIn_rangeFunc fun fn hfn=>?_
 obtain ⟨R,hR⟩:∃R:LoopState→Option Code→Loop,R=fun st pe=>{ state:=st,pending:=pe,fn,tmps:=a.tmps,params:=ps,assign,body,defers:=w.heap.size }:=⟨_,rfl⟩
 obtain ⟨W1,hW1⟩:∃W1,(w.alloc (.deferred (some []))).alloc (.loop (R .ready none))=W1:=⟨_,rfl⟩
 have bw:Below w.heap.size w W1:=by rw [←hW1];exact (((Below.refl _ w).alloc (Nat.le_refl _) _).alloc (by simp) _)
 have hL:W1.heap[w.heap.size+1]?=some (.loop (R .ready none)):=by
  rw [←hW1];have:=World.alloc_heap_new (w.alloc (.deferred (some []))) (.loop (R .ready none))
  rwa [World.size_alloc] at this
 have hD:W1.heap[w.heap.size]?=some (.deferred (some [])):=by
  rw [←hW1];exact (Below.heap_alloc _ _ _ (by simp)).trans (World.alloc_heap_new w _)
 refine ⟨w.heap.size+1,[{ target:=.collected w.heap.size,args:=#[] }],W1,{ target:=.fn (.func gf) lb,args:=#[.func (.yield (w.heap.size+1)) #[] #[]] },W1,gf,#[.func (.yield (w.heap.size+1)) #[] #[]] ++ lb,W1,?_,?_,fun _ _=>trivial,?_,fun _=>h1,?_⟩
 ·rw [←hW1,hR];exact run_enterLoop_outer _ _ _ _ _
 ·simp only [resolve,hg]
  simp [go_sem]
 ·simp [invoke,go_sem,eg]
 ·refine (hit (w.heap.size+1) (fun s W=>J s W∧W.heap[w.heap.size+1]?=some (.loop (R .ready none))∧W.heap[w.heap.size]?=some (.deferred (some []))) W1 bw (fun s X h=>h.1)
   (fun s A B h b=>⟨hJ s A B none h.1 (znC b) (fun r e=>by cases e),(b.block _ (Array.getElem?_eq_some_iff.1 h.2.1).1).trans h.2.1,(b.block _ (Array.getElem?_eq_some_iff.1 h.2.2).1).trans h.2.2⟩)
   (fun s hs=>⟨hJ s w W1 none (h0 s hs) (znC bw) (fun r e=>by cases e),hL,hD⟩) ?_).mono ?_
  ·rintro s x X ⟨hj,hl,hk⟩ hat
   have hlt:w.heap.size+1<X.heap.size:=(Array.getElem?_eq_some_iff.1 hl).1;have hy:=run_yield (P:=P) (args:=enc x) hl (by rw [hR];exact hps x);rw [hR] at hy;refine ⟨fn,_,assign,body,hy,roundIn_of_wpIn hfn (hassign _ x X _ ?_)⟩;clear hy;obtain ⟨X0,hX0⟩:∃X0,X=X0:=⟨_,rfl⟩
   have bX:Below X.heap.size X (X.alloc (ob x)):=(Below.refl _ _).alloc (Nat.le_refl _) _;have hp0:Kp s X (X.alloc (ob x)):=hKa s X (ob x);have hq:(X.alloc (ob x)).heap[X.heap.size]?=some (ob x):=World.alloc_heap_new X (ob x);replace hj:=hJ s X (X.alloc (ob x)) none hj (znC bX) (fun r e=>by cases e);replace hat:=(hAt s x) () X (X.alloc (ob x)) none hat (znC bX) (fun r e=>by cases e);replace hk:=(bX.block _ (Array.getElem?_eq_some_iff.1 hk).1).trans hk;replace hl:=(bX.block _ hlt).trans hl;have hbq:w.heap.size+2≤X.heap.size:=by omega
   obtain ⟨bq,hbqe⟩:∃bq,X.heap.size=bq:=⟨_,rfl⟩
   rw [hbqe] at hq hbq ⊢;have hlt0:=hlt;replace hlt:w.heap.size+1<(X.alloc (ob x)).heap.size:=(Array.getElem?_eq_some_iff.1 hl).1;obtain ⟨Xa,hXa⟩:∃Xa,X.alloc (ob x)=Xa:=⟨_,rfl⟩
   rw [hXa] at hj hat hk hl hlt hq hp0 ⊢;refine ⟨_,run_beginRound hl (by rw [hR]),?_⟩;obtain ⟨X2,hX2⟩:∃X2,Xa.putObj (w.heap.size+1) (.loop { R .ready none with state:=.busy })=X2:=⟨_,rfl⟩
   have hl2:X2.heap[w.heap.size+1]?=some (.loop { R .ready none with state:=.busy }):=by rw [←hX2];exact World.putObj_heap_same hlt
   have hk2:X2.heap[w.heap.size]?=some (.deferred (some [])):=by rw [←hX2];exact (World.putObj_heap_other (by omega)).trans hk
   have hj2:J s X2:=by rw [←hX2];exact hJ.putObj _ hj (by omega) hl rfl
   have ha2:At s x X2:=by rw [←hX2];exact (hAt s x).putObj (s:=()) _ hat (by omega) hl rfl
   have hp2:Kp s X X2:=hKt hp0 (by rw [←hX2];exact hKb s _ _ _ _ (by omega) hl rfl);have hq2:X2.heap[bq]?=some (ob x):=by rw [←hX2];exact (World.putObj_heap_other (by omega)).trans hq
   rw [hX2];refine wpIn_mono (hbody _ s x bq X2 hj2 ha2 hq2 hbq) ?_;rintro e a3 X3 ⟨rfl,q1,q2,q3⟩;have hl3:=q1.same _ _ (by omega) hl2 rfl;have hr:=run_endRound (P:=P) none hl3;refine ⟨_,_,hr,rfl,⟨hJ.putObj _ q2 (by omega) hl3 rfl,?_,?_⟩,hKt (hKt hp2 q3) (hKb s _ _ _ _ (by omega) hl3 rfl)⟩
   ·have:=World.putObj_heap_same (w:=X3) (r:=w.heap.size+1) (o:=.loop { { R .ready none with state:=.busy } with state:=.ready,pending:=none }) (Array.getElem?_eq_some_iff.1 hl3).1
    rw [hR] at this ⊢;exact this
   ·exact (World.putObj_heap_other (by omega)).trans (q1.same _ _ (Nat.le_refl _) hk2 rfl)
  ·rintro e Y ⟨⟨v,rfl⟩,s,hf,hj,hl,hk⟩
   have hr:=run_endLoop (P:=P) hl (by rw [hR];simp);refine ⟨_,_,hr,?_⟩;rw [hR];exact hdone _ s _ (Nat.le_refl _) hf (hJ.putObj _ hj (by omega) hl rfl) ((World.putObj_heap_other (by omega)).trans hk)
attribute [local go_sem] Oper.semAt_some
abbrev zNI (ρ γ:Nat→Nat) (x:Nat):Array Value:=#[.int .i64 (x:Int),.agg #[.int .i64 (ρ x:Int),.int .i64 (γ x:Int)]]
def zsG (n s:Nat):Value:=if s=n then .int .i64 (-1) else .int .i64 ((n-1-s:Nat):Int)
theorem back18_in {S:Nat→Prop} {B l m Bc n:Nat} {lv:Value} {ρ γ:Nat→Nat} {W:World} (hm:1≤m) (J:Nat→World→Prop)
  (hbox:W.cell? ⟨Bc,0,none⟩=some lv) (hBc:Bc<B) (hSc:¬S Bc) (hn:n≤64) (hlv:(n=0∧lv=.slice none 0 0)∨∃Lb cap,lv=.slice (some ⟨Lb,0,none⟩) n cap∧n≤cap∧Lb<B∧¬S Lb∧∀i,i<n→W.cell? ⟨Lb,i*2,none⟩=some (.int .i64 (ρ i:Int))∧W.cell? ⟨Lb,i*2+1,none⟩=some (.int .i64 (γ i:Int))) (h0:J 0 W)
  (hY:∀s X,J s X→s<n→YieldAt Fence.wide (m-1) Tryz.prog l (zNI ρ γ (n-1-s)) X fun e Y=>e=.returned (.bool true)∧J (s+1) Y∧KpL S B X Y) :
  CallsIn Fence.wide m Tryz.prog 119 #[.func (.yield l) #[] #[],.pointer (some ⟨Bc,0,none⟩)] W fun e Y=>(∃v,e=.returned v)∧J n Y:=by
 obtain ⟨a,cap,rfl,hcap,hel⟩:∃a cap,lv=.slice a n cap∧n≤cap∧∀i,i<n→∃Lb,a=some ⟨Lb,0,none⟩∧Lb<B∧¬S Lb∧W.cell? ⟨Lb,i*2,none⟩=some (.int .i64 (ρ i:Int))∧W.cell? ⟨Lb,i*2+1,none⟩=some (.int .i64 (γ i:Int)):=by
  rcases hlv with ⟨rfl,rfl⟩ | ⟨Lb,cap,rfl,h1,h2,h3,h4⟩
  ·exact ⟨none,0,rfl,Nat.le_refl _,fun i hi=>by omega⟩
  ·exact ⟨_,cap,rfl,h1,fun i hi=>⟨Lb,rfl,h2,h3,h4 i hi⟩⟩
 have HC:=hid hel;have H0:=hid h0;have HY:=hid hY;have HSC:=hid hSc;have HBX:=hid hbox;have HBC:=hid hBc;clear hel h0 hY hlv hSc hBc;refine callsIn_of_wp Tryz.func119 rfl trivial ?_ rfl;simp only [Tryz.ntmps119,List.size_toArray,List.length_cons,List.length_nil,Nat.reduceAdd,Nat.reduceSub,Array.replicate_succ,Array.replicate_zero,List.push_toArray,List.append_toArray,List.nil_append,List.cons_append];have hwn:IntKind.i64.wrap ((n:Int)-1)=(n:Int)-1:=zTA (by omega) (by omega);gi_wp2_with fail
 gi_loopw [3] (fun i wr=>∃t:Nat,t≤n∧i=zsG n t∧J t wr∧KpL S B W wr)
  (fun i _=>((intOf i)+1).toNat)
 case atStart =>
  refine ⟨0,Nat.zero_le _,?_,H0.out,KpL.refl _ _ _⟩;unfold zsG
  by_cases e:n=0
  ·subst e;simp
  ·rw [if_neg (by omega)]
   congr 1
   omega
 case round =>
  obtain ⟨t,htn,rfl,hj,hk⟩:=hrel;have JJ:=hid hj;have KK:=hid hk;have hbox':=KK.out.cell HBX.out HBC.out HSC.out;clear hj hk H0 hbox
  by_cases hlt:t<n
  ·obtain ⟨j,hj⟩:∃j,n-1-t=j:=⟨_,rfl⟩
   have hjl:j<n:=by omega
   have hjl':(j:Int)<(n:Int):=by omega
   obtain ⟨Lb,rfl,h1,h2,h3,h4⟩:=HC.out j hjl;have c0:=KK.out.cell h3 h1 h2;have c1:=KK.out.cell h4 h1 h2;have ei:zsG n t=.int .i64 (j:Int):=by unfold zsG;rw [if_neg (by omega),hj]
   have en:(Value.int .i64 ((j:Int)-1))=zsG n (t+1):=by
    unfold zsG
    by_cases q:t+1=n
    ·rw [if_pos q];congr 1;omega
    ·rw [if_neg q];congr 1;omega
   obtain ⟨fn,tmps,assign,body,hy,hR⟩:=HY.out t wr JJ.out hlt;dsimp only [zNI] at hy;rw [hj] at hy;rw [ei];have EN:=hid en;have hjw:IntKind.i64.wrap ((j:Int)-1)=(j:Int)-1:=zTA (by omega) (by omega);clear en ei h1 h2 h3 h4 hj JJ;gi_wp2;refine hR.mono ?_;rintro e W4 ⟨rfl,hj4,hk4⟩;gi_wp2;go_roundw
   case rel=>exact ⟨t+1,by omega,EN.out,hj4,KK.out.trans hk4⟩
   case measure=>simp [intOf]
  ·obtain rfl:t=n:=by omega
   rw [show zsG t t=.int .i64 (-1) from if_pos rfl];gi_wp2;go_end0;exact ⟨⟨_,rfl⟩,JJ.out⟩
theorem back18_new (n:Nat) (a:Option Addr) (len cap:Nat) (w:World) :
  CallsIn Fence.wide n Tryz.prog 97 #[.slice a len cap] w fun e w'=>e=.returned (.func (.func 119) #[] #[.pointer (some ⟨w.heap.size,0,none⟩)])∧w'=w.alloc (.cells #[.slice a len cap] 64):=by
 refine callsIn_of_wp Tryz.func97 rfl trivial ?_ rfl;simp only [Tryz.ntmps97,List.size_toArray,List.length_cons,List.length_nil,Nat.reduceAdd,Nat.reduceSub,Array.replicate_succ,Array.replicate_zero,List.push_toArray,List.append_toArray,List.nil_append,List.cons_append];gi_wp2;go_ret;exact ⟨rfl,rfl⟩
theorem Rw17.kc18 {w w':World} {g n k:Nat} {F:Nat→Int} (h:Rw17 w g n F k) (hk:Kc w w'):Rw17 w' g n F k:=by
 obtain ⟨ps,h1,h2⟩:=h;exact ⟨ps,hk.arr h1,h2.kc hk⟩
theorem Touch.grown18 {S:Nat→Prop} {w0 w w':World} {row:Option Nat} (h:Touch S w0 w) (hg:w.grownBy w' row) (hr:∀k,row=some k→w0.heap.size≤k):Touch S w0 w':=h.grown hg fun k e=>.inl (hr k e)
end Go.Proofs.YtjjpodnjljfheaaGreat
namespace Go.Proofs.YtjjpodnjljfheaaGreat
open Go.RowKit Go.Shelf
attribute [local go_sem] Oper.semAt_some
end Go.Proofs.YtjjpodnjljfheaaGreat
namespace Go.Proofs.YtjjpodnjljfheaaGreat
open Go.RowKit
theorem insert18 {B r vb x y p:Nat} {w:World} {sv:Value} {ρ γ:Nat→Nat} (h:Sp18 B w sv r ρ γ) (hv:Cel w vb 105 [.int .i64 (x:Int),.int .i64 (y:Int)]) (hne:sv.ownBlock≠some vb) (hp:p≤r) (hr:r<64) (hB:B≤w.heap.size) :
  Calls Tryz.prog 76 #[sv,.int .i64 (p:Int),.slice (some ⟨vb,0,none⟩) 1 1] w (zvG B w sv (r+1) (insF p x ρ) (insF p y γ)):=by
 by_cases q:p=r
 ·subst q;exact insert_end18 h hv hr hB
 ·rcases id h with ⟨e,_⟩ | ⟨h0,Bp,cap,t,rfl,e0,e1,e2,e3,e4⟩
  ·omega
  ·by_cases q2:r+1≤cap
   ·exact insert_shift18 (by omega) hr q2 e1 e2 e3 e4 hv (fun q3=>hne (by subst q3;rfl))
   ·obtain rfl:cap=r:=by omega
    exact insert_grow18 (by omega) hr hB e4 hv
theorem zaA {B:Nat} {a b c:World} (h:Below B a b) (k:Below B b c):Below B a c:=⟨k.os.trans h.os,k.tape.trans h.tape,k.output.trans h.output,Nat.le_trans h.size k.size,fun j hj=>(k.block j hj).trans (h.block j hj)⟩
def updF (f:Nat→Nat) (l v:Nat):Nat→Nat:=fun a=>if a=l then v else f a
theorem sc18_set {r l v:Nat} {ρ γ:Nat→Nat} (hl:l<r) (t:List Value):(sc18 r ρ γ ++ t).set (l*2) (.int .i64 (v:Int))=sc18 r (updF ρ l v) γ ++ t:=by
 induction r generalizing t with
 | zero=>omega
 | succ r ih =>
  rw [sc18_succ,sc18_succ,List.append_assoc,List.append_assoc]
  by_cases q:l<r
  ·rw [ih q]
   unfold updF;rw [if_neg (by omega)]
  ·obtain rfl:l=r:=by omega
   rw [List.set_append_right _ _ (by rw [ziA];omega),ziA,Nat.sub_self];have e:sc18 l (updF ρ l v) γ=sc18 l ρ γ:=zlD fun a ha=>⟨by unfold updF;rw [if_neg (by omega)],rfl⟩
   rw [e];simp [updF]
def orL (ρ:Nat→Nat) (k j:Nat):Nat→Nat:=fun l=>if l<j∧ρ l=k then ρ k else ρ l
end Go.Proofs.YtjjpodnjljfheaaGreat
