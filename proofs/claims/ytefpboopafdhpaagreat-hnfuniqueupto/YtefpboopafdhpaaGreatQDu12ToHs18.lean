/-
 QDu12ToHs18: Du12, Bz13, Er13, St13, Cr13, Ad14, Hs18, joined.
-/
import Derived.Test.YtefpboopafdhpaaGreatQDz12ToHn18

set_option maxRecDepth 100000
set_option maxHeartbeats 6400000
set_option linter.unusedVariables false
set_option linter.unusedSimpArgs false
namespace Go.Proofs.YtefpboopafdhpaaGreat
def insd (j:Nat) (u:Nat→Int) (c:Nat):Int:=if c<j then u c else if c=j then 0 else u (c-1)
def capd (j:Nat) (B:Nat→Nat→Int):Nat→Nat→Int
 | 0,c=>dlz j c
 | r+1,c=>insd j (B r) c
theorem zwE (j:Nat) (B:Nat→Nat→Int) (i:Nat) (u:Nat→Int):capd j (stR B i u)=stR (capd j B) (i+1) (insd j u):=by
 funext r c
 cases r with
 | zero=>simp [capd,stR]
 | succ r =>
  show insd j (stR B i u r) c=if r+1=i+1 then insd j u c else insd j (B r) c
  by_cases h:r=i
  ·subst h;rw [zGB,if_pos rfl]
  ·rw [zsA _ h,if_neg (by omega)]
theorem Alt.cap {n j:Nat} {F:(Nat→Nat→Int)→Int} (h:Alt (n+1) F) (hj:j≤n):Alt n fun B=>F (capd j B):=by
 refine ⟨fun A B e=>h.congr _ _ fun r c hr hc=>?_,fun A i u v x y hi=>?_,fun A i hi e=>h.alt _ (i+1) (by omega) fun c hc=>?_⟩
 ·cases r with
  | zero=>rfl
  | succ r =>
   show insd j (A r) c=insd j (B r) c
   unfold insd
   split
   ·exact e r c (by omega) (by omega)
   ·split
    ·rfl
    ·exact e r (c-1) (by omega) (by omega)
 ·show F (capd j (stR A i _))=x*F (capd j (stR A i u))+y*F (capd j (stR A i v))
  rw [zwE,zwE,zwE,←h.lin _ (i+1) _ _ x y (by omega)]
  congr 2
  funext c
  unfold insd
  split
  ·rfl
  ·split
   ·simp
   ·rfl
 ·show insd j (A i) c=insd j (A (i+1)) c
  unfold insd
  split
  ·exact e c (by omega)
  ·split
   ·rfl
   ·exact e (c-1) (by omega)
theorem Alt.top {n:Nat} {F:(Nat→Nat→Int)→Int} (h:Alt (n+1) F):∀ {j:Nat},j≤n→F (capd j dlz)=sgd j*F dlz
 | 0,_=>by
  show _=1*_
  rw [Int.one_mul];refine h.congr _ _ fun r c _ _=>?_
  cases r with
  | zero=>rfl
  | succ r=>show insd 0 (dlz r) c=_;unfold insd dlz;grind
 | j+1,hj=>by
  have h1:=Alt.top h (j:=j) (by omega);have h2:=h.swap (A:=capd j dlz) (i:=0) (k:=j+1) (by omega) (by omega) (by omega)
  show _ = - sgd j*_
  rw [Int.neg_mul,←h1,←h2];refine h.congr _ _ fun r c _ _=>?_
  by_cases hr:r=j+1
  ·subst hr
   rw [zGB]
   show insd (j+1) (dlz j) c=dlz j c
   unfold insd dlz;grind
  ·rw [zsA _ hr]
   cases r with
   | zero =>
    rw [zGB]
    show dlz (j+1) c=insd j (dlz j) c
    unfold insd dlz;grind
   | succ r =>
    rw [zsA _ (by omega)]
    show insd (j+1) (dlz r) c=insd j (dlz r) c
    unfold insd dlz;grind
theorem Alt.clear {n j:Nat} {F:(Nat→Nat→Int)→Int} (h:Alt (n+1) F) (hj:j≤n) (A:Nat→Nat→Int):F (stR A 0 (dlz j))=F (capd j fun r c=>A (r+1) (skd j c)):=by
 have key:∀k,k≤n→F (stR A 0 (dlz j))=F (fun r c=>if r=0 then dlz j c else if r≤k then insd j (fun c=>A r (skd j c)) c else A r c):=by
  intro k
  induction k with
  | zero=>intro _;exact h.congr _ _ fun r c _ _=>by unfold stR;grind
  | succ k ih =>
   intro hk;rw [ih (by omega)];rw [←h.plus (A:=fun r c=>if r=0 then dlz j c else if r≤k then insd j (fun c=>A r (skd j c)) c else A r c) (i:=k+1) (k:=0) (by omega) (by omega) (by omega) (- A (k+1) j)];refine h.congr _ _ fun r c _ _=>?_
   by_cases hr:r=k+1
   ·subst hr
    rw [zGB];simp only [Nat.add_one_ne_zero,if_false,if_true];rw [if_neg (by omega),if_pos (by omega)];unfold insd dlz skd;grind
   ·rw [zsA _ hr]
    grind
 rw [key n (Nat.le_refl n)];refine h.congr _ _ fun r c hr _=>?_
 cases r with
 | zero=>rfl
 | succ r =>
  show (if r+1=0 then _ else if r+1≤n then _ else _)=insd j (fun c=>A (r+1) (skd j c)) c
  rw [if_neg (by omega),if_pos (by omega)]
def exd (n:Nat) (A:Nat→Nat→Int):Int:=su (n+1) fun j=>sgd j*A 0 j*det n (fun r c=>A (r+1) (skd j c))
theorem Alt.exp {n:Nat} (IH:∀G,Alt n G→∀B,G B=det n B*G dlz) {F:(Nat→Nat→Int)→Int} (h:Alt (n+1) F) (A:Nat→Nat→Int):F A=exd n A*F dlz:=by
 have e0:F A=F (stR A 0 fun c=>su (n+1) fun j=>A 0 j*dlz j c):=h.congr _ _ fun r c _ hc=>by
  by_cases hr:r=0
  ·subst hr
   rw [zGB,zrB (i:=c) hc fun k _ hk=>by unfold dlz;rw [if_neg hk];simp];unfold dlz;simp
  ·rw [zsA _ hr]
 rw [e0,h.sum (by omega)];unfold exd;rw [←zgE];refine zMA fun j hj=>?_
 rw [h.clear (by omega),IH _ (h.cap (by omega)),h.top (by omega)]
 grind
theorem zSD:∀n:Nat,det n dlz=1
 | 0=>rfl
 | n+1=>by
  show su (n+1) _=1
  rw [zrB (i:=0) (by omega) fun k _ hk=>by unfold dlz;rw [if_neg hk];simp];have e:det n (fun r c=>dlz (skd 0 r) (c+1))=1:=by
   rw [←zSD n];exact zPA fun r c _ _=>by unfold dlz skd;grind
  rw [e];simp [sgd,dlz]
theorem Alt.eq:∀ {n:Nat} {F:(Nat→Nat→Int)→Int},Alt n F→∀A,F A=det n A*F dlz
 | 0,F,h,A=>by
  show F A=1*F dlz
  rw [Int.one_mul];exact h.congr _ _ fun i j hi _=>by omega
 | n+1,F,h,A=>by
  have h1:=Alt.exp (fun G hG B=>Alt.eq hG B) h A;have h2:=Alt.exp (fun G hG B=>Alt.eq hG B) (zbB (n+1)) A;rw [zSD,Int.mul_one] at h2;rw [h2];exact h1
theorem det_row (n:Nat) (A:Nat→Nat→Int):det (n+1) A=exd n A:=by
 have h2:=Alt.exp (fun G hG B=>Alt.eq hG B) (zbB (n+1)) A
 rwa [zSD,Int.mul_one] at h2
theorem zFC:∀(n:Nat) (A:Nat→Nat→Int),det n (fun i j=>A j i)=det n A
 | 0,_=>rfl
 | n+1,A=>by
  rw [det_row n A];exact zMA fun i _=>by
   show sgd i*A 0 i*det n (fun r c=>A (c+1) (skd i r))=sgd i*A 0 i*det n (fun r c=>A (r+1) (skd i c))
   rw [zFC n (fun r c=>A (r+1) (skd i c))]
def muz (m:Nat) (A B:Nat→Nat→Int):Nat→Nat→Int:=fun i j=>su m fun k=>A i k*B k j
theorem muz_alt (n:Nat) (B:Nat→Nat→Int):Alt n fun A=>det n (muz n A B):=by
 have e:∀(A:Nat→Nat→Int) (i:Nat) (u:Nat→Int),muz n (stR A i u) B=stR (muz n A B) i fun j=>su n fun k=>u k*B k j:=fun A i u=>by
  funext r c
  unfold muz stR
  split <;> simp_all
 refine ⟨fun A C h=>zPA fun i j hi hj=>zMA fun k hk=>by rw [h i k hi hk],fun A i u v x y hi=>?_,fun A i hi he=>(zbB n).alt _ i hi fun j hj=>zMA fun k hk=>by rw [he k hk]⟩
 show det n (muz n (stR A i _) B)=x*det n (muz n (stR A i u) B)+y*det n (muz n (stR A i v) B)
 rw [e,e,e,←(zbB n).lin _ i _ _ x y hi]
 congr 2
 funext j
 rw [←zOB,←zOB,←zJE];exact zMA fun k _=>by grind
theorem det_mul (n:Nat) (A B:Nat→Nat→Int):det n (muz n A B)=det n A*det n B:=by
 have h:=Alt.eq (muz_alt n B) A;rw [h]
 congr 1
 exact zPA fun i j hi _=>by
  show su n (fun k=>dlz i k*B k j)=B i j
  rw [zrB (i:=i) hi fun k _ hk=>by unfold dlz;rw [if_neg (Ne.symm hk)];simp];unfold dlz;simp
theorem det_samecol {n a b:Nat} (A:Nat→Nat→Int) (ha:a<n) (hb:b<n) (hab:a≠b) (h:∀i,i<n→A i a=A i b):det n A=0:=by
 rw [←zFC];exact (zbB n).same ha hb hab fun j hj=>h j hj
def bor (k:Nat) (R:Nat→Nat) (r:Nat):Nat→Nat:=fun a=>if a<k then R a else r
def mi (A:Nat→Nat→Int) (R C:Nat→Nat) (k r j:Nat):Int:=det (k+1) fun a b=>A (bor k R r a) (bor k C j b)
theorem bor_lt {k a r:Nat} {R:Nat→Nat} (h:a<k):bor k R r a=R a:=if_pos h
theorem bor_eq {k r:Nat} {R:Nat→Nat}:bor k R r k=r:=if_neg (by omega)
theorem mi_old (A:Nat→Nat→Int) (R C:Nat→Nat) {k b:Nat} (r:Nat) (hb:b<k):mi A R C k r (C b)=0 :=
 det_samecol _ (show b<k+1 by omega) (show k<k+1 by omega) (by omega) fun i _=>by rw [bor_lt hb,bor_eq]
theorem zgG:∀ {n:Nat} {f:Nat→Int} {X:Nat},(∀k,k<n→(f k).natAbs≤X)→(su n f).natAbs≤n*X
 | 0,_,_,_=>by simp [su]
 | n+1,f,X,h=>by
  have h1:=zgG (n:=n) (f:=f) (X:=X) fun k hk=>h k (by omega)
  have h2:=h n (by omega);have:(su n f+f n).natAbs≤(su n f).natAbs+(f n).natAbs:=Int.natAbs_add_le _ _
  show (su n f+f n).natAbs≤(n+1)*X
  rw [Nat.succ_mul];omega
theorem zkG:∀i:Nat,(sgd i).natAbs=1
 | 0=>rfl
 | i+1=>by show (- sgd i).natAbs=1;rw [Int.natAbs_neg];exact zkG i
theorem zxG {X N:Nat}:∀ {n:Nat} {A:Nat→Nat→Int},n≤N→(∀i j,i<n→j<n→(A i j).natAbs≤X)→(det n A).natAbs≤(N*X) ^ n
 | 0,_,_,_=>by simp [det]
 | n+1,A,hn,h=>by
  have h1:(su (n+1) fun i=>sgd i*A i 0*det n (fun r c=>A (skd i r) (c+1))).natAbs≤(n+1)*(X*(N*X) ^ n):=zgG fun i hi=>by
   have h2:=zxG (X:=X) (N:=N) (n:=n) (A:=fun r c=>A (skd i r) (c+1)) (by omega) fun a b ha hb=>h (skd i a) (b+1) (by unfold skd;split <;> omega) (by omega)
   rw [Int.natAbs_mul,Int.natAbs_mul,zkG,Nat.one_mul];exact Nat.mul_le_mul (h i 0 hi (by omega)) h2
  have h3:(n+1)*(X*(N*X) ^ n)≤N*(X*(N*X) ^ n):=Nat.mul_le_mul_right _ hn;have h4:N*(X*(N*X) ^ n)=(N*X) ^ (n+1):=by rw [Nat.pow_succ,Nat.mul_comm _ (N*X),Nat.mul_assoc]
  show (su (n+1) _).natAbs≤_
  omega

section
variable (A:Nat→Nat→Int)
variable {A}
end

def adz (n:Nat) (A:Nat→Nat→Int) (i j:Nat):Int:=det n (stR A j (dlz i))
theorem su_dlz {n c:Nat} (hc:c<n) (f:Nat→Int):su n (fun k=>f k*dlz k c)=f c:=by
 rw [zrB (i:=c) hc fun k _ hk=>by unfold dlz;rw [if_neg hk];simp];unfold dlz;simp
theorem zFH {n:Nat} (A:Nat→Nat→Int) {j:Nat} (hj:j<n) (u:Nat→Int):su n (fun k=>u k*adz n A k j)=det n (stR A j u):=by
 unfold adz;rw [←(zbB n).sum hj u dlz n];refine zPA fun r c hr hc=>?_
 by_cases q:r=j
 ·subst q;rw [zGB,zGB];exact su_dlz hc u
 ·rw [zsA _ q,zsA _ q]
theorem adz_mul {n r j:Nat} (A:Nat→Nat→Int) (hr:r<n) (hj:j<n):su n (fun k=>A r k*adz n A k j)=if r=j then det n A else 0:=by
 rw [zFH A hj (A r)]
 by_cases q:r=j
 ·subst q;rw [if_pos rfl,zLD]
 ·rw [if_neg q]
  exact (zbB n).same hr hj q fun c _=>by rw [zsA _ q,zGB]
theorem zWE {n j:Nat} (A:Nat→Nat→Int) (hj:j<n) (x:Nat→Int):∀m,m≤n→det n (fun r c=>if r<m∧r≠j then A r c+x r*A j c else A r c)=det n A
 | 0,_=>zPA fun r c _ _=>by rw [if_neg (by omega)]
 | m+1,hm=>by
  rw [←zWE A hj x m (by omega)]
  by_cases q:m=j
  ·exact zPA fun r c _ _=>by
    by_cases c1:r<m∧r≠j
    ·rw [if_pos c1,if_pos (by omega)]
    ·rw [if_neg c1,if_neg (by omega)]
  ·obtain ⟨P,hP⟩:∃P:Nat→Nat→Int,P=fun r c=>if r<m∧r≠j then A r c+x r*A j c else A r c:=⟨_,rfl⟩
   have hp:=(zbB n).plus (A:=P) (show m<n by omega) hj q (x m);rw [←hP,←hp];refine zPA fun r c _ _=>?_
   by_cases e:r=m
   ·subst e
    rw [zGB,if_pos (by omega),hP];simp only [];rw [if_neg (by omega),if_neg (by omega)]
   ·rw [zsA _ e,hP]
    simp only []
    by_cases c1:r<m∧r≠j
    ·rw [if_pos c1,if_pos (by omega)]
    ·rw [if_neg c1,if_neg (by omega)]
theorem zdF {n i j:Nat} (A:Nat→Nat→Int) (hj:j<n):adz n A i j=det n fun r c=>if r=j then dlz i c else if c=i then 0 else A r c:=by
 unfold adz;rw [←zWE (stR A j (dlz i)) hj (fun r => - A r i) n (Nat.le_refl _)];refine zPA fun r c hr hc=>?_
 by_cases q:r=j
 ·subst q
  rw [if_neg (by omega),if_pos rfl,zGB]
 ·rw [if_pos ⟨hr,q⟩,if_neg q,zsA _ q,zGB]
  unfold dlz
  by_cases e:c=i
  ·subst e;rw [if_pos rfl,if_pos rfl];omega
  ·rw [if_neg e,if_neg (Ne.symm e)];omega
theorem adz_turn {n i j:Nat} (A:Nat→Nat→Int) (hi:i<n) (hj:j<n):adz n (fun a b=>A b a) j i=adz n A i j:=by
 rw [zdF A hj,zdF _ hi,←zFC];refine zPA fun r c hr hc=>?_
 simp only [dlz]
 by_cases q:r=j
 ·by_cases e:c=i
  ·simp [q,e]
  ·simp [q,e,Ne.symm e]
 ·by_cases e:c=i
  ·simp [q,e,Ne.symm q]
  ·simp [q,e]
theorem zmG {n i c:Nat} (A:Nat→Nat→Int) (hi:i<n) (hc:c<n):su n (fun k=>adz n A i k*A k c)=if i=c then det n A else 0:=by
 have h:=adz_mul (fun a b=>A b a) hc hi;rw [zFC] at h;have e:su n (fun k=>adz n A i k*A k c)=su n (fun k=>A k c*adz n (fun a b=>A b a) k i):=zMA fun k hk=>by
  rw [adz_turn A hi hk,Int.mul_comm]
 rw [e,h]
 by_cases q:i=c
 ·subst q;rfl
 ·rw [if_neg q,if_neg (Ne.symm q)]
theorem cramer18 {m k:Nat} (B:Nat→Nat→Int) (u:Nat→Int) (hk:k<m):su m (fun i=>det m (stR B i u)*B i k)=det m B*u k:=by
 have h1:∀i,i<m→det m (stR B i u)*B i k=su m fun t=>u t*(adz m B t i*B i k):=fun i hi=>by
  rw [←zFH B hi u,←zgE];exact zMA fun t _=>by grind
 rw [zMA h1,zcD];have h2:∀t,t<m→su m (fun i=>u t*(adz m B t i*B i k))=if t=k then u k*det m B else 0:=fun t ht=>by
  rw [zOB,zmG B ht hk]
  by_cases q:t=k
  ·subst q;rw [if_pos rfl,if_pos rfl]
  ·rw [if_neg q,if_neg q,Int.mul_zero]
 rw [zMA h2,zrB hk (fun t _ ht=>if_neg ht),if_pos rfl,Int.mul_comm]
theorem pick18 {r K:Nat} {U W:Nat→Nat→Int} (h:det r (fun a b=>su K fun t=>U a t*W t b)≠0):∃R:Nat→Nat,(∀a,a<r→R a<K)∧det r (fun a b=>W (R a) b)≠0:=by
 refine Classical.byContradiction fun hn=>h ?_
 have key:∀d k,k+d=r→∀R:Nat→Nat,(∀a,a<r→R a<K∨k≤a)→det r (fun a b=>if a<k then W (R a) b else su K fun t=>U a t*W t b)=0:=by
  intro d
  induction d with
  | zero =>
   intro k hk R hR;refine Classical.byContradiction fun q=>hn ⟨R,fun a ha=>(hR a ha).resolve_right (by omega),fun e=>q ?_⟩
   rw [←e];exact zPA fun a b ha _=>if_pos (by omega)
  | succ d ih =>
   intro k hk R hR;have hkr:k<r:=by omega
   have e1:det r (fun a b=>if a<k then W (R a) b else su K fun t=>U a t*W t b)=det r (stR (fun a b=>if a<k then W (R a) b else su K fun t=>U a t*W t b) k fun b=>su K fun t=>U k t*W t b):=by
    refine zPA fun a b _ _=>?_
    unfold stR
    by_cases q:a=k
    ·subst q;rw [if_neg (by omega),if_pos rfl]
    ·rw [if_neg q]
   rw [e1,(zbB r).sum hkr (fun t=>U k t) W K];refine zLC fun t ht=>?_
   have e2:=ih (k+1) (by omega) (fun a=>if a=k then t else R a) (fun a ha=>by
    by_cases q:a=k
    ·subst q;simp;exact .inl ht
    ·simp only [if_neg q]
     rcases hR a ha with p | p
     ·exact .inl p
     ·exact .inr (by omega))
   have e3:det r (stR (fun a b=>if a<k then W (R a) b else su K fun t=>U a t*W t b) k (W t))=0:=by
    rw [←e2];refine zPA fun a b _ _=>?_
    unfold stR
    by_cases q:a=k
    ·subst q;simp
    ·simp only [if_neg q]
     by_cases p:a<k
     ·rw [if_pos p,if_pos (by omega)]
     ·rw [if_neg p,if_neg (by omega)]
   rw [e3,Int.mul_zero]
 have:=key r 0 (by omega) (fun _=>0) fun a ha=>.inr (Nat.zero_le _)
 rw [←this];exact zPA fun a b _ _=>(if_neg (by omega)).symm
theorem zYI:∀ {s:Nat} {X:Nat→Nat→Int},(∀a b,a<s→b<a→X a b=0)→(∀a,a<s→0<X a a)→0<det s X∧∀a,a<s→X a a≤det s X
 | 0,_,_,_=>⟨by show (0:Int)<1;decide,fun a ha=>by omega⟩
 | s+1,X,h1,h2=>by
  have e0:det (s+1) X=X 0 0*det s (fun r c=>X (r+1) (c+1)):=by
   show su (s+1) _=_
   rw [zrB (i:=0) (by omega) fun k hk h0=>by rw [h1 k 0 hk (by omega)];simp];have e:(fun r c=>X (skd 0 r) (c+1))=fun r c=>X (r+1) (c+1):=by funext r c;simp [skd]
   rw [e]
   show 1*X 0 0*_=_
   rw [Int.one_mul]
  obtain ⟨i1,i2⟩:=zYI (s:=s) (X:=fun r c=>X (r+1) (c+1)) (fun a b ha hb=>h1 _ _ (by omega) (by omega)) (fun a ha=>h2 _ (by omega));have p0:=h2 0 (by omega);rw [e0];refine ⟨Int.mul_pos p0 i1,fun a ha=>?_⟩
  match a,ha with
  | 0,_ =>
   have:X 0 0*1≤X 0 0*det s (fun r c=>X (r+1) (c+1)):=Int.mul_le_mul_of_nonneg_left (by omega) (by omega);omega
  | a+1,ha =>
   have j:=i2 a (by omega);have:1*det s (fun r c=>X (r+1) (c+1))≤X 0 0*det s (fun r c=>X (r+1) (c+1)):=Int.mul_le_mul_of_nonneg_right (by omega) (by omega);omega
theorem Ec18.size {n K r:Nat} {ρ γ:Nat→Nat} {X A:Nat→Nat→Int} {M:Nat} (h:Ec18 n K r ρ γ X) (hd:Rd18 0 r ρ γ X) (e:∀v,Cm19 K n X v↔Cm19 K n A v)
  (hM:∀R C:Nat→Nat,(∀a,a<r→R a<K)→(∀b,b<r→C b<n)→(det r fun a b=>A (R a) (C b)).natAbs≤M):∀t j,t<K→j<n→(X t j).natAbs≤r*M:=by
 intro t c ht hc
 by_cases hq:∃a,a<r∧ρ a=t
 case neg =>
  rw [h.rest t ht (fun a ha q=>hq ⟨a,ha,q⟩) c hc]
  simp
 obtain ⟨a0,ha0,rfl⟩:=hq;have hW:∀t,∃z:Nat→Int,t<K→∀j,j<n→A t j=su r fun a=>z a*X (ρ a) j:=fun t=>by
  by_cases q:t<K
  ·obtain ⟨z,hz⟩:=(h.cm _).1 ((e _).2 (Cm19.row A q))
   exact ⟨z,fun _=>hz⟩
  ·exact ⟨fun _=>0,fun q'=>absurd q' q⟩
 have hU:∀a,∃z:Nat→Int,a<r→∀j,j<n→X (ρ a) j=su K fun t=>z t*A t j:=fun a=>by
  by_cases q:a<r
  ·obtain ⟨z,hz⟩:=(e _).1 (Cm19.row X (h.rl a q))
   exact ⟨z,fun _=>hz⟩
  ·exact ⟨fun _=>0,fun q'=>absurd q' q⟩
 obtain ⟨W,hW⟩:=Classical.axiomOfChoice hW;obtain ⟨U,hU⟩:=Classical.axiomOfChoice hU;have hUW:∀a b,a<r→b<r→(su K fun t=>U a t*W t b)=dlz a b:=fun a b ha hb=>by
  have:=h.free (z:=fun b=>(su K fun t=>U a t*W t b)-dlz a b) (fun j hj=>by
   have e1:X (ρ a) j=su r fun b=>(su K fun t=>U a t*W t b)*X (ρ b) j:=by
    rw [hU a ha j hj,zMA fun t ht=>by rw [hW t ht j hj,←zOB],zcD];exact zMA fun b _=>by rw [←zgE];exact zMA fun t _=>by rw [Int.mul_assoc]
   have e2:X (ρ a) j=su r fun b=>dlz a b*X (ρ b) j:=by
    rw [zrB ha fun k _ hk=>by simp [dlz,Ne.symm hk]];simp [dlz]
   have e3:(su r fun b=>((su K fun t=>U a t*W t b)-dlz a b)*X (ρ b) j)=(su r fun b=>(su K fun t=>U a t*W t b)*X (ρ b) j) + -1*su r fun b=>dlz a b*X (ρ b) j:=by
    rw [←zOB,←zJE];exact zMA fun b _=>by grind
   rw [e3,←e1,←e2];omega) b hb
  have:(su K fun t=>U a t*W t b)-dlz a b=0:=this;omega
 obtain ⟨R,hR,hdW⟩:=pick18 (r:=r) (K:=K) (U:=U) (W:=W) (by
  rw [zPA fun a b ha hb=>hUW a b ha hb,zSD];decide)
 have hT:=zYI (s:=r) (X:=fun a b=>X (ρ a) (γ b)) (fun a b ha hb=>h.zero a _ ha (h.up b a hb ha)) (fun a ha=>h.pos a ha)
 -- the core
 have hD:det r (fun a b=>A (R a) (γ b))=det r (fun a b=>W (R a) b)*det r (fun a b=>X (ρ a) (γ b)):=by
  rw [←det_mul];exact zPA fun a b ha hb=>hW (R a) (hR a ha) (γ b) (h.cl b hb)
 have hDa:∀a,a<r→(X (ρ a) (γ a)).natAbs≤(det r (fun a b=>A (R a) (γ b))).natAbs:=fun a ha=>by
  rw [hD,Int.natAbs_mul];have h1:=hT.2 a ha;have h0:=h.pos a ha;have h2:1≤(det r (fun a b=>W (R a) b)).natAbs:=by omega
  have h3:(X (ρ a) (γ a)).natAbs≤(det r (fun a b=>X (ρ a) (γ b))).natAbs:=by
   have h1':X (ρ a) (γ a)≤det r (fun a b=>X (ρ a) (γ b)):=h1;omega
  calc (X (ρ a) (γ a)).natAbs≤1*(det r (fun a b=>X (ρ a) (γ b))).natAbs:=by omega
   _≤_:=Nat.mul_le_mul_right _ h2
 obtain ⟨D,hDe⟩:∃D,det r (fun a b=>A (R a) (γ b))=D:=⟨_,rfl⟩
 have hD0:D≠0:=by
  rw [←hDe,hD];exact Int.mul_ne_zero hdW (by have:=hT.1;omega)
 obtain ⟨B,hB⟩:∃B:Nat→Nat→Int,B=fun i k=>A (R k) (γ i):=⟨_,rfl⟩
 have hBD:det r B=D:=by rw [←hDe,hB];exact zFC r (fun a b=>A (R a) (γ b))
 obtain ⟨E,hE⟩:∃E:Nat→Int,E=fun i=>det r (stR B i fun k=>A (R k) c):=⟨_,rfl⟩
 have cr:∀k,k<r→D*A (R k) c=su r fun i=>E i*A (R k) (γ i):=fun k hk=>by
  have:=cramer18 (m:=r) B (fun k=>A (R k) c) hk;rw [hBD] at this;rw [←this,hE,hB]
 have hEM:∀i,i<r→(E i).natAbs≤M:=fun i hi=>by
  have:=hM R (fun b=>if b=i then c else γ b) hR (fun b hb=>by
   by_cases q:b=i
   ·simp [q,hc]
   ·simp [q];exact h.cl b hb)
  rw [←zFC r] at this;rw [hE,hB]
  show (det r (stR (fun i k=>A (R k) (γ i)) i fun k=>A (R k) c)).natAbs≤M
  rw [zPA (n:=r) (A:=stR (fun i k=>A (R k) (γ i)) i fun k=>A (R k) c) (B:=fun i_1 j=>A (R j) (if i_1=i then c else γ i_1)) fun a b _ _=>?_]
  ·exact this
  ·unfold stR
   by_cases q:a=i
   ·simp [q]
   ·simp [q]
 have bk:∀a j,a<r→j<n→det r (fun a b=>W (R a) b)*X (ρ a) j=su r fun k=>adz r (fun a b=>W (R a) b) a k*A (R k) j:=fun a j ha hj=>by
  have e1:(su r fun k=>adz r (fun a b=>W (R a) b) a k*A (R k) j)=su r fun b=>(su r fun k=>adz r (fun a b=>W (R a) b) a k*W (R k) b)*X (ρ b) j:=by
   rw [zMA fun k hk=>by rw [hW (R k) (hR k hk) j hj,←zOB],zcD];exact zMA fun b _=>by rw [←zgE];exact zMA fun k _=>by rw [Int.mul_assoc]
  rw [e1,zMA (g:=fun b=>if a=b then det r (fun a b=>W (R a) b)*X (ρ b) j else 0) fun b hb=>?_]
  ·rw [zrB ha fun k _ hk=>if_neg (Ne.symm hk),if_pos rfl]
  ·have:=zmG (fun a b=>W (R a) b) ha hb
   rw [this]
   split <;> simp
 have fin:D*X (ρ a0) c=su r fun i=>E i*X (ρ a0) (γ i):=by
  refine Int.eq_of_mul_eq_mul_left hdW ?_;rw [←zOB,zMA (g:=fun i=>E i*su r fun k=>adz r (fun a b=>W (R a) b) a0 k*A (R k) (γ i)) fun i hi=>by
   rw [←bk a0 (γ i) ha0 (h.cl i hi)];grind]
  have e1:det r (fun a b=>W (R a) b)*(D*X (ρ a0) c)=D*su r fun k=>adz r (fun a b=>W (R a) b) a0 k*A (R k) c:=by rw [←bk a0 c ha0 hc];grind
  rw [e1,←zOB,zMA (g:=fun k=>su r fun i=>adz r (fun a b=>W (R a) b) a0 k*(E i*A (R k) (γ i))) fun k hk=>by
   rw [zOB,←cr k hk];grind,zcD]
  exact zMA fun i _=>by
   rw [←zOB];exact zMA fun k _=>by grind
 have hY:∀i,i<r→(X (ρ a0) (γ i)).natAbs≤D.natAbs:=fun i hi=>by
  have p:=hDa i hi;rw [hDe] at p;have p0:=h.pos i hi;rcases Nat.lt_trichotomy i a0 with q | q | q
  ·rw [h.zero a0 _ ha0 (h.up i a0 q ha0)];simp
  ·subst q;exact p
  ·have:=hd a0 i (Nat.zero_le _) q hi
   omega
 have hb:(D*X (ρ a0) c).natAbs≤r*(M*D.natAbs):=by
  rw [fin];exact zgG fun i hi=>by
   rw [Int.natAbs_mul];exact Nat.mul_le_mul (hEM i hi) (hY i hi)
 rw [Int.natAbs_mul] at hb;refine Nat.le_of_mul_le_mul_left (c:=D.natAbs) ?_ (Int.natAbs_pos.2 hD0)
 calc D.natAbs*(X (ρ a0) c).natAbs≤r*(M*D.natAbs):=hb
  _=D.natAbs*(r*M):=by rw [←Nat.mul_assoc,Nat.mul_comm]
structure Tb18 (m n:Nat) (A:Nat→Nat→Int) (T:Nat):Prop where
 one:1≤T
 own:∀t j,t<m→j<n→(A t j).natAbs≤T
 all:∀K r ρ γ X,K≤m→Ec18 n K r ρ γ X→Rd18 0 r ρ γ X→(∀v,Cm19 K n X v↔Cm19 K n A v)→∀t j,t<K→j<n→(X t j).natAbs≤T
theorem Ec18.few {n K r:Nat} {ρ γ:Nat→Nat} {X:Nat→Nat→Int} (h:Ec18 n K r ρ γ X):r≤n:=by
 have key:∀a,a<r→a≤γ a:=by
  intro a
  induction a with
  | zero=>intro _;exact Nat.zero_le _
  | succ a ih=>intro ha;have:=ih (by omega);have:=h.up a (a+1) (by omega) ha;omega
 rcases Nat.eq_zero_or_pos r with q | q
 ·omega
 ·have:=key (r-1) (by omega);have:=h.cl (r-1) (by omega);omega
theorem tb18 {m n Y:Nat} {A:Nat→Nat→Int} (hn:n≤64) (hY:1≤Y) (h:∀t j,t<m→j<n→(A t j).natAbs≤Y):Tb18 m n A (64*(64*Y) ^ 64):=by
 have hp:∀e,e≤64→(64*Y) ^ e≤(64*Y) ^ 64:=fun e he=>Nat.pow_le_pow_right (by omega) he
 have h1:=hp 1 (by omega);rw [Nat.pow_one] at h1;refine ⟨by omega,fun t j ht hj=>by have:=h t j ht hj;omega,fun K r ρ γ X hK hE hR e t j ht hj=>?_⟩;have hr:=hE.few;have:=hE.size hR e (M:=(64*Y) ^ r) (fun R C hRK hC=>by
  -- the numbers beyond what is asked don't matter
  have:(det r fun a b=>A (R a) (C b))=det r fun a b=>A (R a) (C b):=rfl
  exact zxG (N:=64) (by omega) fun i j hi hj=>h _ _ (by have:=hRK i hi;omega) (hC j hj)) t j ht hj
 exact Nat.le_trans this (Nat.mul_le_mul (by omega) (hp r (by omega)))
theorem tb18_form {m n r T:Nat} {γ:Nat→Nat} {H:Nat→Nat→Int} (h:Ec18 n m r id γ H) (hd:Rd18 0 r id γ H) (hT:1≤T) (hb:∀t j,t<m→j<n→(H t j).natAbs≤T):Tb18 m n H T:=by
 refine ⟨hT,hb,fun K r' ρ' γ' X hK hE hR e t j ht hj=>?_⟩;have hrm:r≤m:=by
  rcases Nat.eq_zero_or_pos r with q | q
  ·omega
  ·have:=h.rl (r-1) (by omega);simp at this;omega
 have h':Ec18 n K (min r K) id γ H:=⟨fun a b hab hb=>h.up a b hab (by omega),fun a ha=>h.cl a (by omega),fun a ha=>by simp;omega,fun a b ha hb q=>q,fun a j ha hj=>h.zero a j (by omega) hj,fun a ha=>h.pos a (by omega),fun t ht hn j hj=>h.rest t (by omega) (fun a ha=>by
  by_cases q:a<K
  ·exact hn a (by omega)
  ·simp;omega) j hj⟩
 obtain ⟨e1,e2⟩:=hE.one h' hR (fun a b ha hab hb=>hd a b ha hab (by omega)) e
 by_cases q:∃a,a<r'∧ρ' a=t
 ·obtain ⟨a,ha,rfl⟩:=q
  rw [(e2 a ha).2 j hj];exact hb _ _ (by simp;omega) hj
 ·rw [hE.rest t ht (fun a ha q'=>q ⟨a,ha,q'⟩) j hj];simp
end Go.Proofs.YtefpboopafdhpaaGreat
