/-
 QDz12ToHn18: Dz12, Tl19, Hn18, joined.
-/
import Derived.Test.YtefpboopafdhpaaGreatQCat9ToPr12

set_option maxRecDepth 100000
set_option maxHeartbeats 6400000
set_option linter.unusedVariables false
set_option linter.unusedSimpArgs false
namespace Go.Proofs.YtefpboopafdhpaaGreat
def su:Nat→(Nat→Int)→Int
 | 0,_=>0
 | n+1,f=>su n f+f n
theorem zMA:∀ {n:Nat} {f g:Nat→Int},(∀k,k<n→f k=g k)→su n f=su n g
 | 0,_,_,_=>rfl
 | n+1,f,g,h=>by
  show su n f+f n=su n g+g n
  rw [zMA (fun k hk=>h k (by omega)),h n (by omega)]
theorem zLC:∀ {n:Nat} {f:Nat→Int},(∀k,k<n→f k=0)→su n f=0
 | 0,_,_=>rfl
 | n+1,f,h=>by
  show su n f+f n=0
  rw [zLC (fun k hk=>h k (by omega)),h n (by omega)];rfl
theorem zJE:∀(n:Nat) (f g:Nat→Int),su n (fun k=>f k+g k)=su n f+su n g
 | 0,_,_=>rfl
 | n+1,f,g=>by
  show su n (fun k=>f k+g k)+(f n+g n)=su n f+f n+(su n g+g n)
  rw [zJE n f g];omega
theorem zOB:∀(n:Nat) (c:Int) (f:Nat→Int),su n (fun k=>c*f k)=c*su n f
 | 0,c,_=>by show (0:Int)=c*0;simp
 | n+1,c,f=>by
  show su n (fun k=>c*f k)+c*f n=c*(su n f+f n)
  rw [zOB n c f,Int.mul_add]
theorem zgE (n:Nat) (c:Int) (f:Nat→Int):su n (fun k=>f k*c)=su n f*c:=by
 rw [Int.mul_comm,←zOB];exact zMA fun k _=>Int.mul_comm _ _
theorem zcD:∀(n m:Nat) (f:Nat→Nat→Int),su n (fun i=>su m (fun j=>f i j))=su m (fun j=>su n (fun i=>f i j))
 | 0,m,f=>by
  show (0:Int)=_
  exact (zLC fun k _=>rfl).symm
 | n+1,m,f=>by
  show su n (fun i=>su m (fun j=>f i j))+su m (fun j=>f n j)=su m (fun j=>su n (fun i=>f i j)+f n j)
  rw [zJE,zcD n m f]
theorem zrB:∀ {n i:Nat} {f:Nat→Int},i<n→(∀k,k<n→k≠i→f k=0)→su n f=f i
 | 0,i,f,h,_=>by omega
 | n+1,i,f,h,hz=>by
  show su n f+f n=f i
  by_cases hi:i=n
  ·subst hi
   rw [zLC (fun k hk=>hz k (by omega) (by omega))];omega
  ·rw [zrB (by omega:i<n) (fun k hk hne=>hz k (by omega) hne),hz n (by omega) (by omega)];omega
theorem zfG:∀ {n i:Nat} {f:Nat→Int},i+1<n→(∀k,k<n→k≠i→k≠i+1→f k=0)→f i+f (i+1)=0→su n f=0
 | 0,i,f,h,_,_=>by omega
 | n+1,i,f,h,hz,hc=>by
  show su n f+f n=0
  by_cases hi:i+1=n
  ·subst hi
   rw [zrB (by omega:i<i+1) (fun k hk hne=>hz k (by omega) hne (by omega))];exact hc
  ·rw [zfG (by omega:i+1<n) (fun k hk h1 h2=>hz k (by omega) h1 h2) hc,hz n (by omega) (by omega) (by omega)];rfl
def skd (i k:Nat):Nat:=if k<i then k else k+1
def sgd:Nat→Int
 | 0=>1
 | n+1 => - sgd n
def dlz (i j:Nat):Int:=if i=j then 1 else 0
def stR (A:Nat→Nat→Int) (i:Nat) (u:Nat→Int):Nat→Nat→Int:=fun r c=>if r=i then u c else A r c
def det:Nat→(Nat→Nat→Int)→Int
 | 0,_=>1
 | n+1,A=>su (n+1) fun i=>sgd i*A i 0*det n (fun r c=>A (skd i r) (c+1))
theorem zPA:∀ {n:Nat} {A B:Nat→Nat→Int},(∀i j,i<n→j<n→A i j=B i j)→det n A=det n B
 | 0,_,_,_=>rfl
 | n+1,A,B,h=>zMA fun i hi=>by
  show sgd i*A i 0*det n (fun r c=>A (skd i r) (c+1))=sgd i*B i 0*det n (fun r c=>B (skd i r) (c+1))
  rw [h i 0 hi (by omega),zPA (A:=fun r c=>A (skd i r) (c+1)) (B:=fun r c=>B (skd i r) (c+1)) fun r c hr hc=>h _ _ (by unfold skd;split <;> omega) (by omega)]
structure Alt (n:Nat) (F:(Nat→Nat→Int)→Int):Prop where
 congr:∀A B:Nat→Nat→Int,(∀i j,i<n→j<n→A i j=B i j)→F A=F B
 lin:∀(A:Nat→Nat→Int) (i:Nat) (u v:Nat→Int) (x y:Int),i<n→F (stR A i fun j=>x*u j+y*v j)=x*F (stR A i u)+y*F (stR A i v)
 alt:∀(A:Nat→Nat→Int) (i:Nat),i+1<n→(∀j,j<n→A i j=A (i+1) j)→F A=0
theorem zbB:∀n:Nat,Alt n (det n)
 | 0=>⟨fun _ _ _=>rfl,fun _ i _ _ _ _ h=>by omega,fun _ i h=>by omega⟩
 | n+1=>by
  have IH:=zbB n;refine ⟨fun A B h=>zPA h,fun A a u v x y ha=>?_,fun A a ha he=>?_⟩
  ·show su (n+1) _=x*su (n+1) _+y*su (n+1) _
   rw [←zOB,←zOB,←zJE];refine zMA fun i hi=>?_
   by_cases hia:i=a
   ·subst hia
    have e:∀z:Nat→Int,det n (fun r c=>stR A i z (skd i r) (c+1))=det n (fun r c=>A (skd i r) (c+1)):=fun z=>zPA fun r c _ _=>if_neg (by unfold skd;split <;> omega)
    have e0:∀z:Nat→Int,stR A i z i 0=z 0:=fun z=>if_pos rfl
    simp only [e,e0]
    grind
   ·have e0:∀z:Nat→Int,stR A a z i 0=A i 0:=fun z=>if_neg hia
    obtain ⟨b,hb,hbn⟩:∃b,skd i b=a∧b<n:=⟨if a<i then a else a-1,by unfold skd;grind,by split <;> omega⟩
    have e:∀z:Nat→Int,det n (fun r c=>stR A a z (skd i r) (c+1))=det n (stR (fun r c=>A (skd i r) (c+1)) b fun c=>z (c+1)):=fun z=>zPA fun r c _ _=>by
     show (if skd i r=a then z (c+1) else A (skd i r) (c+1))=if r=b then z (c+1) else A (skd i r) (c+1)
     by_cases hrb:r=b
     ·rw [if_pos (by rw [hrb];exact hb),if_pos hrb]
     ·rw [if_neg (by rw [←hb];unfold skd;grind),if_neg hrb]
    simp only [e,e0];rw [IH.lin _ b _ _ x y hbn]
    grind
  ·refine zfG (i:=a) ha (fun i hi h1 h2=>?_) ?_
   ·have h0:det n (fun r c=>A (skd i r) (c+1))=0:=by
     refine IH.alt _ (if i<a then a-1 else a) (by split <;> omega) fun j hj=>?_
     have e1:skd i (if i<a then a-1 else a)=a:=by unfold skd;split <;> split <;> omega
     have e2:skd i ((if i<a then a-1 else a)+1)=a+1:=by unfold skd;split <;> split <;> omega
     show A (skd i (if i<a then a-1 else a)) (j+1)=A (skd i ((if i<a then a-1 else a)+1)) (j+1)
     rw [e1,e2];exact he _ (by omega)
    rw [h0,Int.mul_zero]
   ·have e:det n (fun r c=>A (skd a r) (c+1))=det n (fun r c=>A (skd (a+1) r) (c+1)):=zPA fun r c hr hc=>by
     by_cases hra:r=a
     ·subst hra
      have e1:skd r r=r+1:=by unfold skd;split <;> omega
      have e2:skd (r+1) r=r:=by unfold skd;split <;> omega
      show A (skd r r) (c+1)=A (skd (r+1) r) (c+1)
      rw [e1,e2];exact (he _ (by omega)).symm
     ·have e1:skd a r=skd (a+1) r:=by unfold skd;split <;> split <;> omega
      show A (skd a r) (c+1)=A (skd (a+1) r) (c+1)
      rw [e1]
    rw [e,he 0 (by omega)]
    show _ + - sgd a*_*_=0
    grind
theorem zLD (A:Nat→Nat→Int) (i:Nat):stR A i (A i)=A:=by
 funext r c;unfold stR;split <;> simp_all
theorem zrC {A:Nat→Nat→Int} {i k:Nat} (h:i≠k) (u v:Nat→Int):stR (stR A i u) k v=stR (stR A k v) i u:=by
 funext r c;unfold stR;split <;> split <;> simp_all
theorem zGB (A:Nat→Nat→Int) (i:Nat) (u:Nat→Int):stR A i u i=u:=by funext c;simp [stR]
theorem zsA (A:Nat→Nat→Int) {i k:Nat} (h:k≠i) (u:Nat→Int):stR A i u k=A k:=by funext c;simp [stR,h]
section
variable {n:Nat} {F:(Nat→Nat→Int)→Int}
theorem Alt.add (h:Alt n F) {A:Nat→Nat→Int} {i:Nat} (hi:i<n) (u v:Nat→Int):F (stR A i fun j=>u j+v j)=F (stR A i u)+F (stR A i v):=by
 have:=h.lin A i u v 1 1 hi
 simpa using this
theorem Alt.mul (h:Alt n F) {A:Nat→Nat→Int} {i:Nat} (hi:i<n) (x:Int) (u:Nat→Int):F (stR A i fun j=>x*u j)=x*F (stR A i u):=by
 have:=h.lin A i u u x 0 hi
 simpa using this
theorem Alt.swap_of (h:Alt n F) {A:Nat→Nat→Int} {i k:Nat} (hi:i<n) (hk:k<n) (hik:i≠k)
  (h0:∀u:Nat→Int,F (stR (stR A i u) k u)=0):F (stR (stR A i (A k)) k (A i)) = - F A:=by
 have h1:=h0 fun j=>A i j+A k j
 rw [h.add hk,zrC hik,zrC hik,h.add hi,h.add hi,zrC (Ne.symm hik),zrC (Ne.symm hik),zrC (Ne.symm hik),zrC (Ne.symm hik)] at h1;have h2:=h0 (A i);have h3:=h0 (A k);rw [h2,h3] at h1;rw [zLD A i,zLD A k] at h1;omega
theorem Alt.swap1 (h:Alt n F) {A:Nat→Nat→Int} {i:Nat} (hi:i+1<n):F (stR (stR A i (A (i+1))) (i+1) (A i)) = - F A :=
 h.swap_of (by omega) hi (by omega) fun u=>h.alt _ i hi fun j _=>by rw [zGB,zsA _ (by omega),zGB]
theorem Alt.equal (h:Alt n F):∀(d:Nat) {A:Nat→Nat→Int} {i:Nat},i+d+1<n→(∀j,j<n→A i j=A (i+d+1) j)→F A=0
 | 0,A,i,hi,he=>h.alt A i hi he
 | d+1,A,i,hi,he=>by
  have h1:=h.swap1 (A:=A) (i:=i+d+1) (by omega);have h2:=Alt.equal h d (A:=stR (stR A (i+d+1) (A (i+d+1+1))) (i+d+1+1) (A (i+d+1))) (i:=i) (by omega) (fun j hj=>by
   rw [zsA _ (by omega),zsA _ (by omega),zsA _ (by omega),zGB];exact he j hj)
  rw [h2] at h1;omega
theorem Alt.same (h:Alt n F) {A:Nat→Nat→Int} {i k:Nat} (hi:i<n) (hk:k<n) (hik:i≠k) (he:∀j,j<n→A i j=A k j):F A=0:=by
 rcases Nat.lt_or_gt_of_ne hik with hl | hl
 ·obtain ⟨d,rfl⟩:∃d,k=i+d+1:=⟨k-i-1,by omega⟩
  exact h.equal d hk he
 ·obtain ⟨d,rfl⟩:∃d,i=k+d+1:=⟨i-k-1,by omega⟩
  exact h.equal d hi fun j hj=>(he j hj).symm
theorem Alt.swap (h:Alt n F) {A:Nat→Nat→Int} {i k:Nat} (hi:i<n) (hk:k<n) (hik:i≠k):F (stR (stR A i (A k)) k (A i)) = - F A :=
 h.swap_of hi hk hik fun u=>h.same hi hk hik fun j _=>by rw [zGB,zsA _ hik,zGB]
theorem Alt.plus (h:Alt n F) {A:Nat→Nat→Int} {i k:Nat} (hi:i<n) (hk:k<n) (hik:i≠k) (t:Int):F (stR A i fun j=>A i j+t*A k j)=F A:=by
 rw [h.add hi,h.mul hi,zLD,h.same (A:=stR A i (A k)) hi hk hik fun j _=>by rw [zGB,zsA _ (Ne.symm hik)]];omega
theorem Alt.sum (h:Alt n F) {A:Nat→Nat→Int} {i:Nat} (hi:i<n) (x:Nat→Int) (U:Nat→Nat→Int):∀m:Nat,F (stR A i fun j=>su m fun k=>x k*U k j)=su m fun k=>x k*F (stR A i (U k))
 | 0=>by
  have:=h.mul (A:=A) hi 0 (fun _=>0)
  simpa [su] using this
 | m+1=>by
  show F (stR A i fun j=>(su m fun k=>x k*U k j)+x m*U m j)=(su m fun k=>x k*F (stR A i (U k)))+x m*F (stR A i (U m))
  rw [h.add hi,Alt.sum h hi x U m,h.mul hi]
end
def Cm19 (m n:Nat) (L:Nat→Nat→Int) (v:Nat→Int):Prop:=∃z:Nat→Int,∀j,j<n→v j=su m fun i=>z i*L i j
theorem Cm19.congr {m n:Nat} {L:Nat→Nat→Int} {u v:Nat→Int} (h:Cm19 m n L u) (e:∀j,j<n→v j=u j):Cm19 m n L v:=by
 obtain ⟨z,hz⟩:=h;exact ⟨z,fun j hj=>(e j hj).trans (hz j hj)⟩
theorem Cm19.lines {m n:Nat} {L K:Nat→Nat→Int} {v:Nat→Int} (h:Cm19 m n L v) (e:∀i j,i<m→j<n→L i j=K i j):Cm19 m n K v:=by
 obtain ⟨z,hz⟩:=h;exact ⟨z,fun j hj=>(hz j hj).trans (zMA fun i hi=>by rw [e i j hi hj])⟩
theorem Cm19.zero (m n:Nat) (L:Nat→Nat→Int):Cm19 m n L fun _=>0:=⟨fun _=>0,fun j _=>(zLC fun i _=>by simp).symm⟩
theorem Cm19.add {m n:Nat} {L:Nat→Nat→Int} {u v:Nat→Int} (h:Cm19 m n L u) (k:Cm19 m n L v):Cm19 m n L fun j=>u j+v j:=by
 obtain ⟨z,hz⟩:=h;obtain ⟨y,hy⟩:=k;refine ⟨fun i=>z i+y i,fun j hj=>?_⟩
 show u j+v j=_
 rw [hz j hj,hy j hj,←zJE];exact zMA fun i _=>by rw [Int.add_mul]
theorem Cm19.mul {m n:Nat} {L:Nat→Nat→Int} {v:Nat→Int} (h:Cm19 m n L v) (x:Int):Cm19 m n L fun j=>x*v j:=by
 obtain ⟨z,hz⟩:=h;refine ⟨fun i=>x*z i,fun j hj=>?_⟩
 show x*v j=_
 rw [hz j hj,←zOB];exact zMA fun i _=>by rw [Int.mul_assoc]
theorem Cm19.row {m n i:Nat} (L:Nat→Nat→Int) (hi:i<m):Cm19 m n L (L i):=by
 refine ⟨fun k=>dlz k i,fun j hj=>?_⟩;rw [zrB hi fun k _ hk=>by simp [dlz,hk]];simp [dlz]
theorem Cm19.su {m n:Nat} {L:Nat→Nat→Int} {V:Nat→Nat→Int} {q:Nat→Int}:∀ {s:Nat},(∀k,k<s→q k=0∨Cm19 m n L (V k))→Cm19 m n L fun j=>Proofs.YtefpboopafdhpaaGreat.su s fun k=>q k*V k j
 | 0,_=>Cm19.zero m n L
 | s+1,h=>by
  refine (Cm19.su (s:=s) fun k hk=>h k (by omega)).add ?_;rcases h s (by omega) with e | e
  ·exact (Cm19.zero m n L).congr fun j _=>by show q s*V s j=0;rw [e,Int.zero_mul]
  ·exact e.mul _
theorem Cm19.trans {m n k:Nat} {L K:Nat→Nat→Int} {v:Nat→Int} (h:Cm19 k n K v) (hK:∀i,i<k→Cm19 m n L (K i)):Cm19 m n L v:=by
 obtain ⟨z,hz⟩:=h;exact (Cm19.su (q:=z) (V:=K) fun i hi=>.inr (hK i hi)).congr hz
theorem Cm19.more {m n:Nat} {L:Nat→Nat→Int} {v:Nat→Int} (h:Cm19 m n L v) (k:Nat) (hk:m≤k):Cm19 k n L v:=h.trans fun i hi=>Cm19.row L (by omega)
structure Ec18 (n K r:Nat) (ρ γ:Nat→Nat) (X:Nat→Nat→Int):Prop where
 up:∀a b,a<b→b<r→γ a<γ b
 cl:∀a,a<r→γ a<n
 rl:∀a,a<r→ρ a<K
 inj:∀a b,a<r→b<r→ρ a=ρ b→a=b
 zero:∀a j,a<r→j<γ a→X (ρ a) j=0
 pos:∀a,a<r→0<X (ρ a) (γ a)
 rest:∀t,t<K→(∀a,a<r→ρ a≠t)→∀j,j<n→X t j=0
def Rd18 (k r:Nat) (ρ γ:Nat→Nat) (X:Nat→Nat→Int):Prop:=∀a b,k≤a→a<b→b<r→0≤X (ρ a) (γ b)∧X (ρ a) (γ b)<X (ρ b) (γ b)
theorem zuG {z:Nat→Int} {r:Nat}:∀a,a<r→z a≠0→∃b,b<r∧z b≠0∧∀d,d<b→z d=0:=by
 intro a
 induction a using Nat.strongRecOn with
 | ind a ih =>
  intro ha hz
  by_cases q:∃d,d<a∧z d≠0
  ·obtain ⟨d,h1,h2⟩:=q
   exact ih d h1 (by omega) h2
  ·exact ⟨a,ha,hz,fun d hd=>Classical.byContradiction fun h=>q ⟨d,hd,h⟩⟩
section
variable {n K r:Nat} {ρ γ:Nat→Nat} {X:Nat→Nat→Int}
theorem Ec18.cm (h:Ec18 n K r ρ γ X) (v:Nat→Int):Cm19 K n X v↔Cm19 r n (fun a=>X (ρ a)) v:=by
 refine ⟨fun k=>k.trans fun t ht=>?_,fun k=>k.trans fun a ha=>Cm19.row X (h.rl a ha)⟩
 by_cases q:∃a,a<r∧ρ a=t
 ·obtain ⟨a,ha,rfl⟩:=q
  exact Cm19.row (fun a=>X (ρ a)) ha
 ·exact (Cm19.zero r n _).congr fun j hj=>h.rest t ht (fun a ha e=>q ⟨a,ha,e⟩) j hj
theorem Ec18.begins (h:Ec18 n K r ρ γ X) {v z:Nat→Int} (hz:∀j,j<n→v j=su r fun a=>z a*X (ρ a) j) {a:Nat} (ha:a<r) (h0:∀d,d<a→z d=0) :
  (∀j,j<γ a→v j=0)∧v (γ a)=z a*X (ρ a) (γ a):=by
 constructor
 ·intro j hj
  rw [hz j (by have:=h.cl a ha;omega)];refine zLC fun d hd=>?_
  by_cases q:d<a
  ·rw [h0 d q,Int.zero_mul]
  ·have:γ a≤γ d:=by
    by_cases e:d=a
    ·rw [e];exact Nat.le_refl _
    ·exact Nat.le_of_lt (h.up a d (by omega) hd)
   rw [h.zero d j hd (by omega),Int.mul_zero]
 ·rw [hz _ (h.cl a ha)]
  refine zrB ha fun d hd hne=>?_
  by_cases q:d<a
  ·rw [h0 d q,Int.zero_mul]
  ·rw [h.zero d _ hd (h.up a d (by omega) hd),Int.mul_zero]
theorem Ec18.lead (h:Ec18 n K r ρ γ X) {v:Nat→Int} (hv:Cm19 K n X v) {c:Nat} (hc:c<n) (h0:∀j,j<c→v j=0) (h1:v c≠0):∃a,a<r∧γ a=c∧∃q,v c=q*X (ρ a) c:=by
 obtain ⟨z,hz⟩:=(h.cm v).1 hv;have:∃a,a<r∧z a≠0:=Classical.byContradiction fun hn=>h1 (by
  rw [hz c hc];exact zLC fun d hd=>by rw [Classical.byContradiction fun e=>hn ⟨d,hd,e⟩,Int.zero_mul])
 obtain ⟨a0,ha0,hza0⟩:=this;obtain ⟨a,ha,hza,hb⟩:=zuG a0 ha0 hza0;obtain ⟨e1,e2⟩:=h.begins hz ha hb;have hne:v (γ a)≠0:=by rw [e2];exact Int.mul_ne_zero hza (by have:=h.pos a ha;omega)
 have hca:γ a=c:=by
  rcases Nat.lt_trichotomy (γ a) c with q | q | q
  ·exact absurd (h0 _ q) hne
  ·exact q
  ·exact absurd (e1 _ q) h1
 exact ⟨a,ha,hca,z a,by rw [←hca];exact e2⟩
theorem Ec18.free (h:Ec18 n K r ρ γ X) {z:Nat→Int} (hz:∀j,j<n→0=su r fun a=>z a*X (ρ a) j):∀a,a<r→z a=0:=fun a ha=>Classical.byContradiction fun hn=>by
 obtain ⟨b,hb,hzb,h0⟩:=zuG a ha hn;have:=(h.begins (v:=fun _=>0) hz hb h0).2;exact Int.mul_ne_zero hzb (by have:=h.pos b hb;omega) this.symm
end
theorem Ec18.in_ {n K r K' r':Nat} {ρ γ ρ' γ':Nat→Nat} {X X':Nat→Nat→Int} (h:Ec18 n K r ρ γ X) (h':Ec18 n K' r' ρ' γ' X') (e:∀v,Cm19 K n X v↔Cm19 K' n X' v) {a:Nat} (ha:a<r):∃b,b<r'∧γ' b=γ a∧X' (ρ' b) (γ' b) ∣ X (ρ a) (γ a):=by
 obtain ⟨b,hb,hc,q,hq⟩:=h'.lead ((e _).1 (Cm19.row _ (h.rl a ha))) (h.cl a ha) (fun j hj=>h.zero a j ha hj) (by have:=h.pos a ha;omega);exact ⟨b,hb,hc,q,by rw [hq,hc,Int.mul_comm]⟩
theorem Ec18.cols {n K r K' r':Nat} {ρ γ ρ' γ':Nat→Nat} {X X':Nat→Nat→Int} (h:Ec18 n K r ρ γ X) (h':Ec18 n K' r' ρ' γ' X') (e:∀v,Cm19 K n X v↔Cm19 K' n X' v) :
  r=r'∧∀a,a<r→γ a=γ' a∧X (ρ a) (γ a)=X' (ρ' a) (γ' a):=by
 have key:∀k,(k<r→k<r'∧γ k=γ' k)∧(k<r'→k<r∧γ k=γ' k):=by
  intro k
  induction k using Nat.strongRecOn with
  | ind k ih =>
   have s1:k<r→∃b,b<r'∧k≤b∧γ' b=γ k:=fun hk=>by
    obtain ⟨b,hb,hc,_⟩:=h.in_ h' e hk;refine ⟨b,hb,Classical.byContradiction fun q=>?_,hc⟩;obtain ⟨p1,p2⟩:=(ih b (by omega)).2 hb;have:=h.up b k (by omega) hk;omega
   have s2:k<r'→∃b,b<r∧k≤b∧γ b=γ' k:=fun hk=>by
    obtain ⟨b,hb,hc,_⟩:=h'.in_ h (fun v=>(e v).symm) hk;refine ⟨b,hb,Classical.byContradiction fun q=>?_,hc⟩;obtain ⟨p1,p2⟩:=(ih b (by omega)).1 hb;have:=h'.up b k (by omega) hk;omega
   have fin:k<r→k<r'→γ k=γ' k:=fun hk hk'=>by
    obtain ⟨b,b1,b2,b3⟩:=s1 hk;obtain ⟨d,d1,d2,d3⟩:=s2 hk';have u1:γ' k≤γ' b:=by
     by_cases q:b=k
     ·rw [q];exact Nat.le_refl _
     ·exact Nat.le_of_lt (h'.up k b (by omega) b1)
    have u2:γ k≤γ d:=by
     by_cases q:d=k
     ·rw [q];exact Nat.le_refl _
     ·exact Nat.le_of_lt (h.up k d (by omega) d1)
    omega
   constructor
   ·intro hk
    obtain ⟨b,b1,b2,b3⟩:=s1 hk;exact ⟨by omega,fin hk (by omega)⟩
   ·intro hk
    obtain ⟨b,b1,b2,b3⟩:=s2 hk;exact ⟨by omega,fin (by omega) hk⟩
 have hr:r=r':=by
  rcases Nat.lt_trichotomy r r' with q | q | q
  ·have:=((key r).2 q).1;omega
  ·exact q
  ·have:=((key r').1 q).1;omega
 subst hr;refine ⟨rfl,fun a ha=>⟨((key a).1 ha).2,?_⟩⟩;have u:=fun b (hb:b<r)=>((key b).1 hb).2
 obtain ⟨b,hb,hc,d1⟩:=h.in_ h' e ha;obtain ⟨b',hb',hc',d2⟩:=h'.in_ h (fun v=>(e v).symm) ha;have hba:b=a:=by
  rcases Nat.lt_trichotomy b a with q | q | q
  ·have:=h'.up b a q ha;have:=u a ha;omega
  ·exact q
  ·have:=h'.up a b q hb;have:=u a ha;omega
 have hba':b'=a:=by
  rcases Nat.lt_trichotomy b' a with q | q | q
  ·have:=h.up b' a q ha;have:=u a ha;omega
  ·exact q
  ·have:=h.up a b' q hb';have:=u a ha;omega
 subst hba hba';exact Int.dvd_antisymm (by have:=h.pos _ ha;omega) (by have:=h'.pos _ ha;omega) d2 d1
theorem Ec18.one {n K r K' r':Nat} {ρ γ ρ' γ':Nat→Nat} {X X':Nat→Nat→Int} (h:Ec18 n K r ρ γ X) (h':Ec18 n K' r' ρ' γ' X') (hd:Rd18 0 r ρ γ X) (hd':Rd18 0 r' ρ' γ' X') (e:∀v,Cm19 K n X v↔Cm19 K' n X' v) :
  r=r'∧∀a,a<r→γ a=γ' a∧∀j,j<n→X (ρ a) j=X' (ρ' a) j:=by
 obtain ⟨rfl,hc⟩:=h.cols h' e;refine ⟨rfl,fun a ha=>⟨(hc a ha).1,?_⟩⟩;have hv:Cm19 K n X fun j=>X (ρ a) j + -1*X' (ρ' a) j:=(Cm19.row X (h.rl a ha)).add (((e _).2 (Cm19.row X' (h'.rl a ha))).mul (-1))
 have key:∀c,c≤n→∀j,j<c→X (ρ a) j + -1*X' (ρ' a) j=0:=by
  intro c
  induction c with
  | zero=>intro _ j hj;omega
  | succ c ih =>
   intro hcn j hj
   by_cases q:j<c
   ·exact ih (by omega) j q
   ·obtain rfl:j=c:=by omega
    refine Classical.byContradiction fun hne=>?_
    obtain ⟨b,hb,hγ,s,hs⟩:=h.lead hv (show j<n by omega) (fun t ht=>ih (by omega) t ht) hne;subst hγ;rcases Nat.lt_trichotomy b a with p | p | p
    ·have:=h.up b a p ha
     rw [h.zero a _ ha this,h'.zero a _ ha (by rw [←(hc a ha).1];exact this)] at hne;exact hne rfl
    ·subst p
     have e2:=(hc b hb).2;rw [←(hc b hb).1] at e2;rw [e2] at hne;exact hne (by omega)
    ·have p1:=hd a b (Nat.zero_le _) p hb
     have p2:=hd' a b (Nat.zero_le _) p hb;have e1:=(hc b hb).2;rw [←(hc b hb).1] at p2 e1;rw [←e1] at p2;have hs':X (ρ a) (γ b) + -1*X' (ρ' a) (γ b)=s*X (ρ b) (γ b):=hs;have hs0:s=0:=by
      rcases Int.lt_trichotomy s 0 with q | q | q
      ·have:s*X (ρ b) (γ b) ≤ -1*X (ρ b) (γ b):=Int.mul_le_mul_of_nonneg_right (by omega) (by omega)
       omega
      ·exact q
      ·have:1*X (ρ b) (γ b)≤s*X (ρ b) (γ b):=Int.mul_le_mul_of_nonneg_right (by omega) (by omega)
       omega
     rw [hs',hs0,Int.zero_mul] at hne;exact hne rfl
 intro j hj;have:=key n (Nat.le_refl _) j hj;omega
end Go.Proofs.YtefpboopafdhpaaGreat
