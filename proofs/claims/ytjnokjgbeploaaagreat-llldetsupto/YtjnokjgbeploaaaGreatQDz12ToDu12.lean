/-
 QDz12ToDu12: Dz12, Du12, joined.
-/
import Derived.Test.YtjnokjgbeploaaaGreatQEachM11ToPr12

set_option maxRecDepth 100000
set_option maxHeartbeats 6400000
set_option linter.unusedVariables false
set_option linter.unusedSimpArgs false
namespace Go.Proofs.YtjnokjgbeploaaaGreat
def su:Nat→(Nat→Int)→Int
 | 0,_=>0
 | n+1,f=>su n f+f n
theorem zJA:∀ {n:Nat} {f g:Nat→Int},(∀k,k<n→f k=g k)→su n f=su n g
 | 0,_,_,_=>rfl
 | n+1,f,g,h=>by
  show su n f+f n=su n g+g n
  rw [zJA (fun k hk=>h k (by omega)),h n (by omega)]
theorem zOC:∀ {n:Nat} {f:Nat→Int},(∀k,k<n→f k=0)→su n f=0
 | 0,_,_=>rfl
 | n+1,f,h=>by
  show su n f+f n=0
  rw [zOC (fun k hk=>h k (by omega)),h n (by omega)];rfl
theorem zZD:∀(n:Nat) (f g:Nat→Int),su n (fun k=>f k+g k)=su n f+su n g
 | 0,_,_=>rfl
 | n+1,f,g=>by
  show su n (fun k=>f k+g k)+(f n+g n)=su n f+f n+(su n g+g n)
  rw [zZD n f g];omega
theorem zWB:∀(n:Nat) (c:Int) (f:Nat→Int),su n (fun k=>c*f k)=c*su n f
 | 0,c,_=>by show (0:Int)=c*0;simp
 | n+1,c,f=>by
  show su n (fun k=>c*f k)+c*f n=c*(su n f+f n)
  rw [zWB n c f,Int.mul_add]
theorem zQE (n:Nat) (c:Int) (f:Nat→Int):su n (fun k=>f k*c)=su n f*c:=by
 rw [Int.mul_comm,←zWB];exact zJA fun k _=>Int.mul_comm _ _
theorem zZF:∀(n m:Nat) (f:Nat→Nat→Int),su n (fun i=>su m (fun j=>f i j))=su m (fun j=>su n (fun i=>f i j))
 | 0,m,f=>by
  show (0:Int)=_
  exact (zOC fun k _=>rfl).symm
 | n+1,m,f=>by
  show su n (fun i=>su m (fun j=>f i j))+su m (fun j=>f n j)=su m (fun j=>su n (fun i=>f i j)+f n j)
  rw [zZD,zZF n m f]
theorem zxA:∀ {n i:Nat} {f:Nat→Int},i<n→(∀k,k<n→k≠i→f k=0)→su n f=f i
 | 0,i,f,h,_=>by omega
 | n+1,i,f,h,hz=>by
  show su n f+f n=f i
  by_cases hi:i=n
  ·subst hi
   rw [zOC (fun k hk=>hz k (by omega) (by omega))];omega
  ·rw [zxA (by omega:i<n) (fun k hk hne=>hz k (by omega) hne),hz n (by omega) (by omega)];omega
theorem ztG:∀ {n i:Nat} {f:Nat→Int},i+1<n→(∀k,k<n→k≠i→k≠i+1→f k=0)→f i+f (i+1)=0→su n f=0
 | 0,i,f,h,_,_=>by omega
 | n+1,i,f,h,hz,hc=>by
  show su n f+f n=0
  by_cases hi:i+1=n
  ·subst hi
   rw [zxA (by omega:i<i+1) (fun k hk hne=>hz k (by omega) hne (by omega))];exact hc
  ·rw [ztG (by omega:i+1<n) (fun k hk h1 h2=>hz k (by omega) h1 h2) hc,hz n (by omega) (by omega) (by omega)];rfl
def skd (i k:Nat):Nat:=if k<i then k else k+1
def sgd:Nat→Int
 | 0=>1
 | n+1 => - sgd n
def dlz (i j:Nat):Int:=if i=j then 1 else 0
def stR (A:Nat→Nat→Int) (i:Nat) (u:Nat→Int):Nat→Nat→Int:=fun r c=>if r=i then u c else A r c
def det:Nat→(Nat→Nat→Int)→Int
 | 0,_=>1
 | n+1,A=>su (n+1) fun i=>sgd i*A i 0*det n (fun r c=>A (skd i r) (c+1))
theorem zEA:∀ {n:Nat} {A B:Nat→Nat→Int},(∀i j,i<n→j<n→A i j=B i j)→det n A=det n B
 | 0,_,_,_=>rfl
 | n+1,A,B,h=>zJA fun i hi=>by
  show sgd i*A i 0*det n (fun r c=>A (skd i r) (c+1))=sgd i*B i 0*det n (fun r c=>B (skd i r) (c+1))
  rw [h i 0 hi (by omega),zEA (A:=fun r c=>A (skd i r) (c+1)) (B:=fun r c=>B (skd i r) (c+1)) fun r c hr hc=>h _ _ (by unfold skd;split <;> omega) (by omega)]
structure Alt (n:Nat) (F:(Nat→Nat→Int)→Int):Prop where
 congr:∀A B:Nat→Nat→Int,(∀i j,i<n→j<n→A i j=B i j)→F A=F B
 lin:∀(A:Nat→Nat→Int) (i:Nat) (u v:Nat→Int) (x y:Int),i<n→F (stR A i fun j=>x*u j+y*v j)=x*F (stR A i u)+y*F (stR A i v)
 alt:∀(A:Nat→Nat→Int) (i:Nat),i+1<n→(∀j,j<n→A i j=A (i+1) j)→F A=0
theorem zYA:∀n:Nat,Alt n (det n)
 | 0=>⟨fun _ _ _=>rfl,fun _ i _ _ _ _ h=>by omega,fun _ i h=>by omega⟩
 | n+1=>by
  have IH:=zYA n;refine ⟨fun A B h=>zEA h,fun A a u v x y ha=>?_,fun A a ha he=>?_⟩
  ·show su (n+1) _=x*su (n+1) _+y*su (n+1) _
   rw [←zWB,←zWB,←zZD];refine zJA fun i hi=>?_
   by_cases hia:i=a
   ·subst hia
    have e:∀z:Nat→Int,det n (fun r c=>stR A i z (skd i r) (c+1))=det n (fun r c=>A (skd i r) (c+1)):=fun z=>zEA fun r c _ _=>if_neg (by unfold skd;split <;> omega)
    have e0:∀z:Nat→Int,stR A i z i 0=z 0:=fun z=>if_pos rfl
    simp only [e,e0]
    grind
   ·have e0:∀z:Nat→Int,stR A a z i 0=A i 0:=fun z=>if_neg hia
    obtain ⟨b,hb,hbn⟩:∃b,skd i b=a∧b<n:=⟨if a<i then a else a-1,by unfold skd;grind,by split <;> omega⟩
    have e:∀z:Nat→Int,det n (fun r c=>stR A a z (skd i r) (c+1))=det n (stR (fun r c=>A (skd i r) (c+1)) b fun c=>z (c+1)):=fun z=>zEA fun r c _ _=>by
     show (if skd i r=a then z (c+1) else A (skd i r) (c+1))=if r=b then z (c+1) else A (skd i r) (c+1)
     by_cases hrb:r=b
     ·rw [if_pos (by rw [hrb];exact hb),if_pos hrb]
     ·rw [if_neg (by rw [←hb];unfold skd;grind),if_neg hrb]
    simp only [e,e0];rw [IH.lin _ b _ _ x y hbn]
    grind
  ·refine ztG (i:=a) ha (fun i hi h1 h2=>?_) ?_
   ·have h0:det n (fun r c=>A (skd i r) (c+1))=0:=by
     refine IH.alt _ (if i<a then a-1 else a) (by split <;> omega) fun j hj=>?_
     have e1:skd i (if i<a then a-1 else a)=a:=by unfold skd;split <;> split <;> omega
     have e2:skd i ((if i<a then a-1 else a)+1)=a+1:=by unfold skd;split <;> split <;> omega
     show A (skd i (if i<a then a-1 else a)) (j+1)=A (skd i ((if i<a then a-1 else a)+1)) (j+1)
     rw [e1,e2];exact he _ (by omega)
    rw [h0,Int.mul_zero]
   ·have e:det n (fun r c=>A (skd a r) (c+1))=det n (fun r c=>A (skd (a+1) r) (c+1)):=zEA fun r c hr hc=>by
     by_cases hra:r=a
     ·subst hra
      have e1:skd r r=r+1:=by unfold skd;split <;> omega
      have e2:skd (r+1) r=r:=by unfold skd;split <;> omega
      show A (skd r r) (c+1)=A (skd (r+1) r) (c+1)
      rw [e1,e2];exact (he _ (by omega)).symm
     ·have e1:skd a r=skd (a+1) r:=by unfold skd;split <;> split <;> omega
      show A (skd a r) (c+1)=A (skd (a+1) r) (c+1)
      rw [e1]
    rw [e,he 0 (by omega)]
    show _ + - sgd a*_*_=0
    grind
theorem zdB (A:Nat→Nat→Int) (i:Nat):stR A i (A i)=A:=by
 funext r c;unfold stR;split <;> simp_all
theorem zSB {A:Nat→Nat→Int} {i k:Nat} (h:i≠k) (u v:Nat→Int):stR (stR A i u) k v=stR (stR A k v) i u:=by
 funext r c;unfold stR;split <;> split <;> simp_all
theorem zQA (A:Nat→Nat→Int) (i:Nat) (u:Nat→Int):stR A i u i=u:=by funext c;simp [stR]
theorem zKA (A:Nat→Nat→Int) {i k:Nat} (h:k≠i) (u:Nat→Int):stR A i u k=A k:=by funext c;simp [stR,h]
section
variable {n:Nat} {F:(Nat→Nat→Int)→Int}
theorem Alt.add (h:Alt n F) {A:Nat→Nat→Int} {i:Nat} (hi:i<n) (u v:Nat→Int):F (stR A i fun j=>u j+v j)=F (stR A i u)+F (stR A i v):=by
 have:=h.lin A i u v 1 1 hi
 simpa using this
theorem Alt.mul (h:Alt n F) {A:Nat→Nat→Int} {i:Nat} (hi:i<n) (x:Int) (u:Nat→Int):F (stR A i fun j=>x*u j)=x*F (stR A i u):=by
 have:=h.lin A i u u x 0 hi
 simpa using this
theorem Alt.swap_of (h:Alt n F) {A:Nat→Nat→Int} {i k:Nat} (hi:i<n) (hk:k<n) (hik:i≠k)
  (h0:∀u:Nat→Int,F (stR (stR A i u) k u)=0):F (stR (stR A i (A k)) k (A i)) = - F A:=by
 have h1:=h0 fun j=>A i j+A k j
 rw [h.add hk,zSB hik,zSB hik,h.add hi,h.add hi,zSB (Ne.symm hik),zSB (Ne.symm hik),zSB (Ne.symm hik),zSB (Ne.symm hik)] at h1;have h2:=h0 (A i);have h3:=h0 (A k);rw [h2,h3] at h1;rw [zdB A i,zdB A k] at h1;omega
theorem Alt.swap1 (h:Alt n F) {A:Nat→Nat→Int} {i:Nat} (hi:i+1<n):F (stR (stR A i (A (i+1))) (i+1) (A i)) = - F A :=
 h.swap_of (by omega) hi (by omega) fun u=>h.alt _ i hi fun j _=>by rw [zQA,zKA _ (by omega),zQA]
theorem Alt.equal (h:Alt n F):∀(d:Nat) {A:Nat→Nat→Int} {i:Nat},i+d+1<n→(∀j,j<n→A i j=A (i+d+1) j)→F A=0
 | 0,A,i,hi,he=>h.alt A i hi he
 | d+1,A,i,hi,he=>by
  have h1:=h.swap1 (A:=A) (i:=i+d+1) (by omega);have h2:=Alt.equal h d (A:=stR (stR A (i+d+1) (A (i+d+1+1))) (i+d+1+1) (A (i+d+1))) (i:=i) (by omega) (fun j hj=>by
   rw [zKA _ (by omega),zKA _ (by omega),zKA _ (by omega),zQA];exact he j hj)
  rw [h2] at h1;omega
theorem Alt.same (h:Alt n F) {A:Nat→Nat→Int} {i k:Nat} (hi:i<n) (hk:k<n) (hik:i≠k) (he:∀j,j<n→A i j=A k j):F A=0:=by
 rcases Nat.lt_or_gt_of_ne hik with hl | hl
 ·obtain ⟨d,rfl⟩:∃d,k=i+d+1:=⟨k-i-1,by omega⟩
  exact h.equal d hk he
 ·obtain ⟨d,rfl⟩:∃d,i=k+d+1:=⟨i-k-1,by omega⟩
  exact h.equal d hi fun j hj=>(he j hj).symm
theorem Alt.swap (h:Alt n F) {A:Nat→Nat→Int} {i k:Nat} (hi:i<n) (hk:k<n) (hik:i≠k):F (stR (stR A i (A k)) k (A i)) = - F A :=
 h.swap_of hi hk hik fun u=>h.same hi hk hik fun j _=>by rw [zQA,zKA _ hik,zQA]
theorem Alt.plus (h:Alt n F) {A:Nat→Nat→Int} {i k:Nat} (hi:i<n) (hk:k<n) (hik:i≠k) (t:Int):F (stR A i fun j=>A i j+t*A k j)=F A:=by
 rw [h.add hi,h.mul hi,zdB,h.same (A:=stR A i (A k)) hi hk hik fun j _=>by rw [zQA,zKA _ (Ne.symm hik)]];omega
theorem Alt.sum (h:Alt n F) {A:Nat→Nat→Int} {i:Nat} (hi:i<n) (x:Nat→Int) (U:Nat→Nat→Int):∀m:Nat,F (stR A i fun j=>su m fun k=>x k*U k j)=su m fun k=>x k*F (stR A i (U k))
 | 0=>by
  have:=h.mul (A:=A) hi 0 (fun _=>0)
  simpa [su] using this
 | m+1=>by
  show F (stR A i fun j=>(su m fun k=>x k*U k j)+x m*U m j)=(su m fun k=>x k*F (stR A i (U k)))+x m*F (stR A i (U m))
  rw [h.add hi,Alt.sum h hi x U m,h.mul hi]
theorem Alt.nul (h:Alt n F) {A:Nat→Nat→Int} {i:Nat} (hi:i<n) (hz:∀j,j<n→A i j=0):F A=0:=by
 have h1:=h.mul (A:=A) hi 0 (A i);rw [h.congr (stR A i fun j=>0*A i j) A (fun r c hr hc=>by
  unfold stR;split
  ·next e=>rw [e,hz c hc];exact Int.zero_mul _
  ·rfl)] at h1
 omega
end
def insd (j:Nat) (u:Nat→Int) (c:Nat):Int:=if c<j then u c else if c=j then 0 else u (c-1)
def capd (j:Nat) (B:Nat→Nat→Int):Nat→Nat→Int
 | 0,c=>dlz j c
 | r+1,c=>insd j (B r) c
theorem zhE (j:Nat) (B:Nat→Nat→Int) (i:Nat) (u:Nat→Int):capd j (stR B i u)=stR (capd j B) (i+1) (insd j u):=by
 funext r c
 cases r with
 | zero=>simp [capd,stR]
 | succ r =>
  show insd j (stR B i u r) c=if r+1=i+1 then insd j u c else insd j (B r) c
  by_cases h:r=i
  ·subst h;rw [zQA,if_pos rfl]
  ·rw [zKA _ h,if_neg (by omega)]
theorem Alt.cap {n j:Nat} {F:(Nat→Nat→Int)→Int} (h:Alt (n+1) F) (hj:j≤n):Alt n fun B=>F (capd j B):=by
 refine ⟨fun A B e=>h.congr _ _ fun r c hr hc=>?_,fun A i u v x y hi=>?_,fun A i hi e=>h.alt _ (i+1) (by omega) fun c hc=>?_⟩
 ·cases r with
  | zero=>rfl
  | succ r =>
   show insd j (A r) c=insd j (B r) c
   unfold insd
   split
   ·exact e r c (by omega) (by omega)
   ·split
    ·rfl
    ·exact e r (c-1) (by omega) (by omega)
 ·show F (capd j (stR A i _))=x*F (capd j (stR A i u))+y*F (capd j (stR A i v))
  rw [zhE,zhE,zhE,←h.lin _ (i+1) _ _ x y (by omega)]
  congr 2
  funext c
  unfold insd
  split
  ·rfl
  ·split
   ·simp
   ·rfl
 ·show insd j (A i) c=insd j (A (i+1)) c
  unfold insd
  split
  ·exact e c (by omega)
  ·split
   ·rfl
   ·exact e (c-1) (by omega)
theorem Alt.top {n:Nat} {F:(Nat→Nat→Int)→Int} (h:Alt (n+1) F):∀ {j:Nat},j≤n→F (capd j dlz)=sgd j*F dlz
 | 0,_=>by
  show _=1*_
  rw [Int.one_mul];refine h.congr _ _ fun r c _ _=>?_
  cases r with
  | zero=>rfl
  | succ r=>show insd 0 (dlz r) c=_;unfold insd dlz;grind
 | j+1,hj=>by
  have h1:=Alt.top h (j:=j) (by omega);have h2:=h.swap (A:=capd j dlz) (i:=0) (k:=j+1) (by omega) (by omega) (by omega)
  show _ = - sgd j*_
  rw [Int.neg_mul,←h1,←h2];refine h.congr _ _ fun r c _ _=>?_
  by_cases hr:r=j+1
  ·subst hr
   rw [zQA]
   show insd (j+1) (dlz j) c=dlz j c
   unfold insd dlz;grind
  ·rw [zKA _ hr]
   cases r with
   | zero =>
    rw [zQA]
    show dlz (j+1) c=insd j (dlz j) c
    unfold insd dlz;grind
   | succ r =>
    rw [zKA _ (by omega)]
    show insd (j+1) (dlz r) c=insd j (dlz r) c
    unfold insd dlz;grind
theorem Alt.clear {n j:Nat} {F:(Nat→Nat→Int)→Int} (h:Alt (n+1) F) (hj:j≤n) (A:Nat→Nat→Int):F (stR A 0 (dlz j))=F (capd j fun r c=>A (r+1) (skd j c)):=by
 have key:∀k,k≤n→F (stR A 0 (dlz j))=F (fun r c=>if r=0 then dlz j c else if r≤k then insd j (fun c=>A r (skd j c)) c else A r c):=by
  intro k
  induction k with
  | zero=>intro _;exact h.congr _ _ fun r c _ _=>by unfold stR;grind
  | succ k ih =>
   intro hk;rw [ih (by omega)];rw [←h.plus (A:=fun r c=>if r=0 then dlz j c else if r≤k then insd j (fun c=>A r (skd j c)) c else A r c) (i:=k+1) (k:=0) (by omega) (by omega) (by omega) (- A (k+1) j)];refine h.congr _ _ fun r c _ _=>?_
   by_cases hr:r=k+1
   ·subst hr
    rw [zQA];simp only [Nat.add_one_ne_zero,if_false,if_true];rw [if_neg (by omega),if_pos (by omega)];unfold insd dlz skd;grind
   ·rw [zKA _ hr]
    grind
 rw [key n (Nat.le_refl n)];refine h.congr _ _ fun r c hr _=>?_
 cases r with
 | zero=>rfl
 | succ r =>
  show (if r+1=0 then _ else if r+1≤n then _ else _)=insd j (fun c=>A (r+1) (skd j c)) c
  rw [if_neg (by omega),if_pos (by omega)]
def exd (n:Nat) (A:Nat→Nat→Int):Int:=su (n+1) fun j=>sgd j*A 0 j*det n (fun r c=>A (r+1) (skd j c))
theorem Alt.exp {n:Nat} (IH:∀G,Alt n G→∀B,G B=det n B*G dlz) {F:(Nat→Nat→Int)→Int} (h:Alt (n+1) F) (A:Nat→Nat→Int):F A=exd n A*F dlz:=by
 have e0:F A=F (stR A 0 fun c=>su (n+1) fun j=>A 0 j*dlz j c):=h.congr _ _ fun r c _ hc=>by
  by_cases hr:r=0
  ·subst hr
   rw [zQA,zxA (i:=c) hc fun k _ hk=>by unfold dlz;rw [if_neg hk];simp];unfold dlz;simp
  ·rw [zKA _ hr]
 rw [e0,h.sum (by omega)];unfold exd;rw [←zQE];refine zJA fun j hj=>?_
 rw [h.clear (by omega),IH _ (h.cap (by omega)),h.top (by omega)]
 grind
theorem zeC:∀n:Nat,det n dlz=1
 | 0=>rfl
 | n+1=>by
  show su (n+1) _=1
  rw [zxA (i:=0) (by omega) fun k _ hk=>by unfold dlz;rw [if_neg hk];simp];have e:det n (fun r c=>dlz (skd 0 r) (c+1))=1:=by
   rw [←zeC n];exact zEA fun r c _ _=>by unfold dlz skd;grind
  rw [e];simp [sgd,dlz]
theorem Alt.eq:∀ {n:Nat} {F:(Nat→Nat→Int)→Int},Alt n F→∀A,F A=det n A*F dlz
 | 0,F,h,A=>by
  show F A=1*F dlz
  rw [Int.one_mul];exact h.congr _ _ fun i j hi _=>by omega
 | n+1,F,h,A=>by
  have h1:=Alt.exp (fun G hG B=>Alt.eq hG B) h A;have h2:=Alt.exp (fun G hG B=>Alt.eq hG B) (zYA (n+1)) A;rw [zeC,Int.mul_one] at h2;rw [h2];exact h1
theorem zuD (n:Nat) (A:Nat→Nat→Int):det (n+1) A=exd n A:=by
 have h2:=Alt.exp (fun G hG B=>Alt.eq hG B) (zYA (n+1)) A
 rwa [zeC,Int.mul_one] at h2
theorem zcA:∀(n:Nat) (A:Nat→Nat→Int),det n (fun i j=>A j i)=det n A
 | 0,_=>rfl
 | n+1,A=>by
  rw [zuD n A];exact zJA fun i _=>by
   show sgd i*A 0 i*det n (fun r c=>A (c+1) (skd i r))=sgd i*A 0 i*det n (fun r c=>A (r+1) (skd i c))
   rw [zcA n (fun r c=>A (r+1) (skd i c))]
def muz (m:Nat) (A B:Nat→Nat→Int):Nat→Nat→Int:=fun i j=>su m fun k=>A i k*B k j
theorem muz_alt (n:Nat) (B:Nat→Nat→Int):Alt n fun A=>det n (muz n A B):=by
 have e:∀(A:Nat→Nat→Int) (i:Nat) (u:Nat→Int),muz n (stR A i u) B=stR (muz n A B) i fun j=>su n fun k=>u k*B k j:=fun A i u=>by
  funext r c
  unfold muz stR
  split <;> simp_all
 refine ⟨fun A C h=>zEA fun i j hi hj=>zJA fun k hk=>by rw [h i k hi hk],fun A i u v x y hi=>?_,fun A i hi he=>(zYA n).alt _ i hi fun j hj=>zJA fun k hk=>by rw [he k hk]⟩
 show det n (muz n (stR A i _) B)=x*det n (muz n (stR A i u) B)+y*det n (muz n (stR A i v) B)
 rw [e,e,e,←(zYA n).lin _ i _ _ x y hi]
 congr 2
 funext j
 rw [←zWB,←zWB,←zZD];exact zJA fun k _=>by grind
theorem zbH (n:Nat) (A B:Nat→Nat→Int):det n (muz n A B)=det n A*det n B:=by
 have h:=Alt.eq (muz_alt n B) A;rw [h]
 congr 1
 exact zEA fun i j hi _=>by
  show su n (fun k=>dlz i k*B k j)=B i j
  rw [zxA (i:=i) hi fun k _ hk=>by unfold dlz;rw [if_neg (Ne.symm hk)];simp];unfold dlz;simp
end Go.Proofs.YtjnokjgbeploaaaGreat
