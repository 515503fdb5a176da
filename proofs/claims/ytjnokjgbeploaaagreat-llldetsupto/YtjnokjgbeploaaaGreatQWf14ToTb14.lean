/-
 QWf14ToTb14: Wf14, Er13, Ad14, Tb14, joined.
-/
import Derived.Test.YtjnokjgbeploaaaGreatQSr13
import Derived.Test.YtjnokjgbeploaaaGreatQSo13ToInts9
import Derived.Test.YtjnokjgbeploaaaGreatQPickA9ToPickB9
import Derived.Test.YtjnokjgbeploaaaGreatQBz13ToSt13
import Derived.Test.YtjnokjgbeploaaaGreatQCr13ToCb23

set_option maxRecDepth 100000
set_option maxHeartbeats 6400000
set_option linter.unusedVariables false
set_option linter.unusedSimpArgs false
namespace Go.Proofs.YtjnokjgbeploaaaGreat
open Go.RowKit
def wf (k:Nat) (F:Nat→Int):List Value:=(List.range k).map fun t=>.int .i64 (F t)
def upF (F:Nat→Int) (i:Nat) (z:Int):Nat→Int:=fun t=>if t=i then z else F t
theorem zpG {k i:Nat} {F:Nat→Int} (hi:i<k):(wf k F)[i]?=some (.int .i64 (F i)):=by simp [wf,hi]
theorem zbA {k:Nat} {F G:Nat→Int} (h:∀t,t<k→F t=G t):wf k F=wf k G:=List.map_congr_left fun t ht=>by rw [h t (by simpa using ht)]
theorem zEI {k i:Nat} {F:Nat→Int} (hi:i<k) (z:Int):(wf k F).set i (.int .i64 z)=wf k (upF F i z):=by
 apply List.ext_getElem?
 intro t
 by_cases q:t<k
 ·by_cases e:t=i
  ·subst e
   rw [List.getElem?_set_self (by simpa [wf] using hi),zpG q];simp [upF]
  ·rw [List.getElem?_set_ne (by omega),zpG q,zpG q];simp [upF,e]
 ·rw [List.getElem?_eq_none (by simp [wf];omega),List.getElem?_eq_none (by simp [wf];omega)]
theorem Cel.nf {w:World} {g k i:Nat} {F:Nat→Int} (h:Cel w g 3 (wf k F)) (hi:i<k):w.cell? ⟨g,i,none⟩=some (.int .i64 (F i)):=h.at (zpG hi)
theorem Cel.nfset {w:World} {g k i:Nat} {F:Nat→Int} (h:Cel w g 3 (wf k F)) (hi:i<k) (z:Int):Cel (w.setCell ⟨g,i,none⟩ (.int .i64 z)) g 3 (wf k (upF F i z)):=by
 rw [←zEI hi z];exact h.set i _
theorem Cel.in14 {w:World} {g k:Nat} {F:Nat→Int} {l:List Nat} (h:Cel w g 3 (wf k F)) (hl:l.length=k) (hk:k≤1048576) (hF:∀t,t<k→F t=(l.getD t 0:Nat)):In9 w (.slice (some ⟨g,0,none⟩) k k) (natv l):=by
 have e:(natv l).length=k:=by simp [natv,hl]
 refine ⟨_,_,by rw [e],by omega,by omega,.inr ⟨g,0,rfl,h.blk,fun j hj=>?_⟩⟩;have hj':j<k:=by omega
 rw [Nat.zero_add,h.nf hj',hF j hj'];have:j<l.length:=by omega
 simp [natv,this]
theorem madeCells_nf (m:Nat):madeCells (Value.int .i64 0).cells m=(wf m fun _=>0).toArray:=by
 apply Array.ext
 ·simp [size_madeCells,wf]
 ·intro i h1 h2
  simp [madeCells,wf,Value.cells,Nat.mod_one]
theorem zRB (w:World) {ops:Array Oper} {rest:List Oper} {o:Oper} {a:Act} {Q:Exit→Act→World→Prop}
  (hg:o.guard=none) (l c:Operand) (hop:o.op=Op.makeSlice 47 l c)
  (L C:Int) (n m:Nat) (hl:a.eval l=.int .i64 L) (hc:a.eval c=.int .i64 C) (hL:L=(n:Int)) (hC:C=(m:Int)) (hnm:n≤m) (hm:m≤2000000)
  (hK:∀w',Hid (Cel w' w.heap.size 3 (wf m fun _=>0))→Hid (Below w.heap.size w w')→Hid (w'.heap.size=w.heap.size+1)→wpList Tryz.prog ops Q rest (a.put o.dst (.slice (some ⟨w.heap.size,0,none⟩) n m)) w') :
  wpList Tryz.prog ops Q (o :: rest) a w:=by
 refine wpList_plain hg fun K hK'=>?_
 obtain ⟨i,hi,hz,hs,hb⟩:=info_parts Tryz.infoI13;have hrun:=run_make (P:=Tryz.prog) w 47 3 i (.int .i64 0) Tryz.underlying47 hi hz .i64 .i64 n m (by omega) (by omega) (by rw [hb];omega) (by omega);subst hL;subst hC;rw [hs,Nat.mul_one,Int.toNat_natCast,Int.toNat_natCast,madeCells_nf] at hrun;unfold Oper.wp;simp [execOp,hop,hl,hc,hrun,Result.andThen];refine hK' _ _ (hK _ ?_ ((Below.refl _ _).alloc (Nat.le_refl _) _) ?_)
 ·unfold Hid Cel;exact heap_alloc_new w _
 ·unfold Hid;simp
end Go.Proofs.YtjnokjgbeploaaaGreat
namespace Go.Proofs.YtjnokjgbeploaaaGreat

def adz (n:Nat) (A:Nat→Nat→Int) (i j:Nat):Int:=det n (stR A j (dlz i))
theorem zII {n c:Nat} (hc:c<n) (f:Nat→Int):su n (fun k=>f k*dlz k c)=f c:=by
 rw [zxA (i:=c) hc fun k _ hk=>by unfold dlz;rw [if_neg hk];simp];unfold dlz;simp
theorem zgH {n:Nat} (A:Nat→Nat→Int) {j:Nat} (hj:j<n) (u:Nat→Int):su n (fun k=>u k*adz n A k j)=det n (stR A j u):=by
 unfold adz;rw [←(zYA n).sum hj u dlz n];refine zEA fun r c hr hc=>?_
 by_cases q:r=j
 ·subst q;rw [zQA,zQA];exact zII hc u
 ·rw [zKA _ q,zKA _ q]
theorem adz_mul {n r j:Nat} (A:Nat→Nat→Int) (hr:r<n) (hj:j<n):su n (fun k=>A r k*adz n A k j)=if r=j then det n A else 0:=by
 rw [zgH A hj (A r)]
 by_cases q:r=j
 ·subst q;rw [if_pos rfl,zdB]
 ·rw [if_neg q]
  exact (zYA n).same hr hj q fun c _=>by rw [zKA _ q,zQA]
theorem zJE {n j:Nat} (A:Nat→Nat→Int) (hj:j<n) (x:Nat→Int):∀m,m≤n→det n (fun r c=>if r<m∧r≠j then A r c+x r*A j c else A r c)=det n A
 | 0,_=>zEA fun r c _ _=>by rw [if_neg (by omega)]
 | m+1,hm=>by
  rw [←zJE A hj x m (by omega)]
  by_cases q:m=j
  ·exact zEA fun r c _ _=>by
    by_cases c1:r<m∧r≠j
    ·rw [if_pos c1,if_pos (by omega)]
    ·rw [if_neg c1,if_neg (by omega)]
  ·obtain ⟨P,hP⟩:∃P:Nat→Nat→Int,P=fun r c=>if r<m∧r≠j then A r c+x r*A j c else A r c:=⟨_,rfl⟩
   have hp:=(zYA n).plus (A:=P) (show m<n by omega) hj q (x m);rw [←hP,←hp];refine zEA fun r c _ _=>?_
   by_cases e:r=m
   ·subst e
    rw [zQA,if_pos (by omega),hP];simp only [];rw [if_neg (by omega),if_neg (by omega)]
   ·rw [zKA _ e,hP]
    simp only []
    by_cases c1:r<m∧r≠j
    ·rw [if_pos c1,if_pos (by omega)]
    ·rw [if_neg c1,if_neg (by omega)]
theorem zWF {n i j:Nat} (A:Nat→Nat→Int) (hj:j<n):adz n A i j=det n fun r c=>if r=j then dlz i c else if c=i then 0 else A r c:=by
 unfold adz;rw [←zJE (stR A j (dlz i)) hj (fun r => - A r i) n (Nat.le_refl _)];refine zEA fun r c hr hc=>?_
 by_cases q:r=j
 ·subst q
  rw [if_neg (by omega),if_pos rfl,zQA]
 ·rw [if_pos ⟨hr,q⟩,if_neg q,zKA _ q,zQA]
  unfold dlz
  by_cases e:c=i
  ·subst e;rw [if_pos rfl,if_pos rfl];omega
  ·rw [if_neg e,if_neg (Ne.symm e)];omega
theorem adz_turn {n i j:Nat} (A:Nat→Nat→Int) (hi:i<n) (hj:j<n):adz n (fun a b=>A b a) j i=adz n A i j:=by
 rw [zWF A hj,zWF _ hi,←zcA];refine zEA fun r c hr hc=>?_
 simp only [dlz]
 by_cases q:r=j
 ·by_cases e:c=i
  ·simp [q,e]
  ·simp [q,e,Ne.symm e]
 ·by_cases e:c=i
  ·simp [q,e,Ne.symm q]
  ·simp [q,e]
theorem mul_adz {n i c:Nat} (A:Nat→Nat→Int) (hi:i<n) (hc:c<n):su n (fun k=>adz n A i k*A k c)=if i=c then det n A else 0:=by
 have h:=adz_mul (fun a b=>A b a) hc hi;rw [zcA] at h;have e:su n (fun k=>adz n A i k*A k c)=su n (fun k=>A k c*adz n (fun a b=>A b a) k i):=zJA fun k hk=>by
  rw [adz_turn A hi hk,Int.mul_comm]
 rw [e,h]
 by_cases q:i=c
 ·subst q;rfl
 ·rw [if_neg q,if_neg (Ne.symm q)]
def vcl (A:Nat→Nat→Int) (n c i:Nat):Int:=if c<n then A i c else dlz (c-n) i
def dcl (A:Nat→Nat→Int) (m n:Nat) (f:Nat→Nat):Int:=det m fun p=>vcl A n (f p)
def stf (f:Nat→Nat) (i c:Nat):Nat→Nat:=fun p=>if p=i then c else f p
theorem zFD (A:Nat→Nat→Int) (m n:Nat) (f:Nat→Nat) (i c:Nat):dcl A m n (stf f i c)=det m (stR (fun p=>vcl A n (f p)) i (vcl A n c)):=by
 unfold dcl
 congr 1
 funext p k
 unfold stf stR
 split <;> rfl
theorem zfC {A:Nat→Nat→Int} {m n:Nat} {f g:Nat→Nat} (h:∀p,p<m→f p=g p):dcl A m n f=dcl A m n g:=zEA fun p k hp _=>by rw [h p hp]
theorem zbG {m k:Nat} (B:Nat→Nat→Int) (u:Nat→Int) (hk:k<m):su m (fun i=>det m (stR B i u)*B i k)=det m B*u k:=by
 have h1:∀i,i<m→det m (stR B i u)*B i k=su m fun t=>u t*(adz m B t i*B i k):=fun i hi=>by
  rw [←zgH B hi u,←zQE];exact zJA fun t _=>by grind
 rw [zJA h1,zZF];have h2:∀t,t<m→su m (fun i=>u t*(adz m B t i*B i k))=if t=k then u k*det m B else 0:=fun t ht=>by
  rw [zWB,mul_adz B ht hk]
  by_cases q:t=k
  ·subst q;rw [if_pos rfl,if_pos rfl]
  ·rw [if_neg q,if_neg q,Int.mul_zero]
 rw [zJA h2,zxA hk (fun t _ ht=>if_neg ht),if_pos rfl,Int.mul_comm]
theorem zaH {m p i:Nat} (B:Nat→Nat→Int) (u:Nat→Int) (hp:p<m) (hi:i<m) (h:i≠p):det m (stR (stR B p u) i (B p)) = - det m (stR B i u):=by
 rw [←(zYA m).swap (A:=stR B i u) hp hi (Ne.symm h)]
 congr 1
 funext r c
 unfold stR
 by_cases a:r=i
 ·rw [if_pos a,if_pos a,if_neg (Ne.symm h)]
 ·by_cases b:r=p
  ·rw [if_neg a,if_neg a,if_pos b,if_pos b,if_pos rfl]
  ·rw [if_neg a,if_neg a,if_neg b,if_neg b,if_neg a]
theorem su_pick14 {m i p:Nat} {F:Nat→Int} (hi:i<m) (hp:p<m) (h:i≠p) (hz:∀t,t<m→t≠i→t≠p→F t=0):su m F=F i+F p:=by
 have e:∀t,t<m→F t=(if t=i then F i else 0)+(if t=p then F p else 0):=fun t ht=>by
  by_cases a:t=i
  ·subst a;rw [if_pos rfl,if_neg h,Int.add_zero]
  ·by_cases b:t=p
   ·subst b;rw [if_neg a,if_pos rfl,Int.zero_add]
   ·rw [if_neg a,if_neg b,hz t ht a b];rfl
 rw [zJA e,zZD,zxA hi (fun k _ hk=>if_neg hk),zxA hp (fun k _ hk=>if_neg hk),if_pos rfl,if_pos rfl]
structure Tbl (A:Nat→Nat→Int) (m n:Nat) (f g:Nat→Nat) (by_:Nat→Nat→Int) (d:Int):Prop where
 nz:d≠0
 de:dcl A m n f=d
 be:∀i j,i<m→j<n→by_ i j=dcl A m n (stf f i (g j))
 fi:∀i j,i<m→j<m→f i=f j→i=j
 gi:∀i j,i<n→j<n→g i=g j→i=j
 fg:∀i j,i<m→j<n→f i≠g j
 fl:∀i,i<m→f i<n+m
 gl:∀j,j<n→g j<n+m
 cov:∀c,c<n+m→(∃i,i<m∧f i=c)∨∃j,j<n∧g j=c
def exch (by_:Nat→Nat→Int) (d:Int) (p q:Nat) (x:Nat→Nat→Int):Nat→Nat→Int:=fun i j=>if i=p then (if j=q then d else by_ p j) else if j=q then-by_ i q else x i j
theorem Tbl.start (A:Nat→Nat→Int) (m n:Nat):Tbl A m n (fun i=>n+i) (fun j=>j) A 1:=by
 have e:∀p k,vcl A n (n+p) k=dlz p k:=fun p k=>by unfold vcl;rw [if_neg (by omega),Nat.add_sub_cancel_left]
 refine ⟨by decide,?_,fun i j hi hj=>?_,fun i j _ _ h=>by omega,fun i j _ _ h=>h,fun i j _ _=>by omega,fun i h=>by omega,fun j h=>by omega,fun c hc=>?_⟩
 ·unfold dcl
  rw [zEA (B:=dlz) fun p k _ _=>e p k];exact zeC m
 ·rw [zFD,zEA (B:=stR dlz i fun k=>su m fun t=>A t j*dlz t k) fun r c hr hc=>?_,zaG dlz hi fun t=>A t j,zeC,Int.mul_one]
  unfold stR
  by_cases q:r=i
  ·rw [if_pos q,if_pos q]
   show vcl A n j c=su m fun t=>A t j*dlz t c
   rw [zII hc];unfold vcl;rw [if_pos hj]
  ·rw [if_neg q,if_neg q];exact e r c
 ·by_cases q:c<n
  ·exact .inr ⟨c,q,rfl⟩
  ·exact .inl ⟨c-n,by omega,by omega⟩
theorem Tbl.comb {A:Nat→Nat→Int} {m n:Nat} {f g:Nat→Nat} {by_:Nat→Nat→Int} {d:Int} (h:Tbl A m n f g by_ d) {j k:Nat} (hj:j<n) (hk:k<m):d*vcl A n (g j) k=su m fun i=>by_ i j*vcl A n (f i) k:=by
 rw [zJA (g:=fun i=>det m (stR (fun p=>vcl A n (f p)) i (vcl A n (g j)))*vcl A n (f i) k) fun i hi=>by rw [h.be i j hi hj,zFD],zbG (fun p=>vcl A n (f p)) (vcl A n (g j)) hk];rw [←h.de]
 rfl
theorem Tbl.cross {A:Nat→Nat→Int} {m n:Nat} {f g:Nat→Nat} {by_:Nat→Nat→Int} {d:Int} (h:Tbl A m n f g by_ d) {p q i j:Nat} (hp:p<m) (hq:q<n) (hi:i<m) (hj:j<n) (hip:i≠p) :
  by_ p q*by_ i j-by_ i q*by_ p j=d*dcl A m n (stf (stf f p (g q)) i (g j)):=by
 obtain ⟨B,hB⟩:∃B,(fun r=>vcl A n (f r))=B:=⟨_,rfl⟩
 have e0:dcl A m n (stf (stf f p (g q)) i (g j))=det m (stR (stR B p (vcl A n (g q))) i (vcl A n (g j))):=by
  rw [zFD,←hB]
  congr 2
  funext r k
  unfold stf stR
  split <;> rfl
 have hlin:∀x:Nat→Int,det m (stR (stR B p (vcl A n (g q))) i fun k=>su m fun t=>x t*B t k)=su m fun t=>x t*det m (stR (stR B p (vcl A n (g q))) i (B t)):=fun x=>(zYA m).sum hi x B m
 have h1:d*det m (stR (stR B p (vcl A n (g q))) i (vcl A n (g j)))=su m fun t=>by_ t j*det m (stR (stR B p (vcl A n (g q))) i (B t)):=by
  rw [←hlin,←(zYA m).mul hi];refine zEA fun r k hr hk=>?_
  unfold stR
  by_cases e:r=i
  ·rw [if_pos e,if_pos e]
   show d*vcl A n (g j) k=su m fun t=>by_ t j*B t k
   rw [h.comb hj hk,←hB]
  ·rw [if_neg e,if_neg e]
 rw [e0,h1];have h2:∀t,t<m→t≠i→t≠p→by_ t j*det m (stR (stR B p (vcl A n (g q))) i (B t))=0:=fun t ht h1 h2=>by
  rw [(zYA m).same (i:=t) (k:=i) ht hi h1 fun k _=>by
   unfold stR;rw [if_neg h1,if_neg h2,if_pos rfl],Int.mul_zero]
 rw [su_pick14 hi hp hip h2,zaH B _ hp hi hip];have e1:det m (stR (stR B p (vcl A n (g q))) i (B i))=by_ p q:=by
  rw [h.be p q hp hq,zFD,hB]
  congr 1
  funext r k
  unfold stR
  by_cases e:r=i
  ·subst e;rw [if_pos rfl,if_neg hip]
  ·rw [if_neg e]
 have e2:det m (stR B i (vcl A n (g q)))=by_ i q:=by rw [h.be i q hi hq,zFD,hB]
 rw [e1,e2]
 grind
theorem zRE {f:Nat→Nat} {i c p:Nat} (h:p≠i):stf f i c p=f p:=if_neg h
theorem zvF {f:Nat→Nat} {i c:Nat}:stf f i c i=c:=if_pos rfl
theorem Tbl.exchange {A:Nat→Nat→Int} {m n:Nat} {f g:Nat→Nat} {by_ x:Nat→Nat→Int} {d:Int} (h:Tbl A m n f g by_ d) {p q:Nat} (hp:p<m) (hq:q<n) (hnz:by_ p q≠0) (hx:∀i j,i<m→j<n→i≠p→j≠q→d*x i j=by_ p q*by_ i j-by_ i q*by_ p j) :
  Tbl A m n (stf f p (g q)) (stf g q (f p)) (exch by_ d p q x) (by_ p q):=by
 refine ⟨hnz,(h.be p q hp hq).symm,fun i j hi hj=>?_,fun i j hi hj e=>?_,fun i j hi hj e=>?_,fun i j hi hj e=>?_,fun i hi=>?_,fun j hj=>?_,fun c hc=>?_⟩
 ·unfold exch
  by_cases ei:i=p
  ·subst ei
   rw [if_pos rfl]
   by_cases ej:j=q
   ·subst ej
    rw [if_pos rfl,zvF,←h.de];exact zfC fun r hr=>by
     unfold stf
     by_cases e:r=i
     ·rw [if_pos e,e]
     ·rw [if_neg e,if_neg e]
   ·rw [if_neg ej,zRE ej,h.be i j hi hj]
    exact zfC fun r hr=>by
     unfold stf
     by_cases e:r=i
     ·rw [if_pos e,if_pos e]
     ·rw [if_neg e,if_neg e,if_neg e]
  ·rw [if_neg ei]
   by_cases ej:j=q
   ·subst ej
    rw [if_pos rfl,zvF,h.be i j hi hj,zFD,←zaH _ _ hp hi ei,zFD]
    congr 2
    funext r k
    unfold stf stR
    split <;> rfl
   ·rw [if_neg ej,zRE ej]
    have h1:=hx i j hi hj ei ej;rw [h.cross hp hq hi hj ei] at h1;exact Int.eq_of_mul_eq_mul_left h.nz h1
 ·unfold stf at e
  by_cases a:i=p <;> by_cases b:j=p
  ·omega
  ·rw [if_pos a,if_neg b] at e;exact absurd e.symm (h.fg j q hj hq)
  ·rw [if_neg a,if_pos b] at e;exact absurd e (h.fg i q hi hq)
  ·rw [if_neg a,if_neg b] at e;exact h.fi i j hi hj e
 ·unfold stf at e
  by_cases a:i=q <;> by_cases b:j=q
  ·omega
  ·rw [if_pos a,if_neg b] at e;exact absurd e (h.fg p j hp hj)
  ·rw [if_neg a,if_pos b] at e;exact absurd e.symm (h.fg p i hp hi)
  ·rw [if_neg a,if_neg b] at e;exact h.gi i j hi hj e
 ·unfold stf at e
  by_cases a:i=p <;> by_cases b:j=q
  ·rw [if_pos a,if_pos b] at e;exact absurd e.symm (h.fg p q hp hq)
  ·rw [if_pos a,if_neg b] at e;exact b (h.gi q j hq hj e).symm
  ·rw [if_neg a,if_pos b] at e;exact a (h.fi i p hi hp e)
  ·rw [if_neg a,if_neg b] at e;exact h.fg i j hi hj e
 ·unfold stf;split
  ·exact h.gl q hq
  ·exact h.fl i hi
 ·unfold stf;split
  ·exact h.fl p hp
  ·exact h.gl j hj
 ·rcases h.cov c hc with ⟨i,hi,e⟩ | ⟨j,hj,e⟩
  ·by_cases a:i=p
   ·exact .inr ⟨q,hq,by rw [zvF,←a];exact e⟩
   ·exact .inl ⟨i,hi,by rw [zRE a];exact e⟩
  ·by_cases b:j=q
   ·exact .inl ⟨p,hp,by rw [zvF,←b];exact e⟩
   ·exact .inr ⟨j,hj,by rw [zRE b];exact e⟩
end Go.Proofs.YtjnokjgbeploaaaGreat
