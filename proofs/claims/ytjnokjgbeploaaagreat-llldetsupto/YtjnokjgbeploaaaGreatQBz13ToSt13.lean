/-
 QBz13ToSt13: Bz13, St13, joined.
-/
import Derived.Test.YtjnokjgbeploaaaGreatQDz12ToDu12

set_option maxRecDepth 100000
set_option maxHeartbeats 6400000
set_option linter.unusedVariables false
set_option linter.unusedSimpArgs false
namespace Go.Proofs.YtjnokjgbeploaaaGreat
theorem zZB:∀(n:Nat) (A:Nat→Nat→Int),det (n+1) (stR A n (dlz n))=det n A
 | 0,A=>by
  show su 1 _=1
  rw [zxA (i:=0) (by omega) fun k _ hk=>by omega];rw [zQA];simp [sgd,dlz,det]
 | n+1,A=>by
  show su (n+2) _=su (n+1) _
  show su (n+1) _+sgd (n+1)*stR A (n+1) (dlz (n+1)) (n+1) 0*_=_
  have h0:stR A (n+1) (dlz (n+1)) (n+1) 0=0:=by rw [zQA];simp [dlz]
  rw [h0,Int.mul_zero,Int.zero_mul,Int.add_zero];refine zJA fun i hi=>?_
  have e:det (n+1) (fun r c=>stR A (n+1) (dlz (n+1)) (skd i r) (c+1))=det (n+1) (stR (fun r c=>A (skd i r) (c+1)) n (dlz n)):=zEA fun r c hr hc=>by
   by_cases q:r=n
   ·subst q
    have e1:skd i r=r+1:=by unfold skd;rw [if_neg (by omega)]
    rw [zQA,e1,zQA];simp [dlz]
   ·rw [zKA _ q,zKA _ (by unfold skd;split <;> omega)]
  rw [e,zZB n,zKA _ (by omega)]
theorem zaG {n r:Nat} (A:Nat→Nat→Int) (hr:r<n) (x:Nat→Int):det n (stR A r fun j=>su n fun k=>x k*A k j)=x r*det n A:=by
 rw [(zYA n).sum hr x A n,zxA hr fun k hk hne=>?_,zdB];rw [(zYA n).same (A:=stR A r (A k)) hr hk (Ne.symm hne) fun j _=>by rw [zQA,zKA _ hne]]
 simp
theorem det_dep {n r:Nat} (A:Nat→Nat→Int) (hr:r<n) (x:Nat→Int) (hx:x r≠0) (h:∀j,j<n→su n (fun k=>x k*A k j)=0):det n A=0:=by
 have h1:=zaG A hr x;rw [(zYA n).nul (A:=stR A r fun j=>su n fun k=>x k*A k j) hr fun j hj=>by rw [zQA];exact h j hj] at h1;rcases Int.mul_eq_zero.1 h1.symm with h2 | h2
 ·exact absurd h2 hx
 ·exact h2
theorem ztD {n a b:Nat} (A:Nat→Nat→Int) (ha:a<n) (hb:b<n) (hab:a≠b) (h:∀i,i<n→A i a=A i b):det n A=0:=by
 rw [←zcA];exact (zYA n).same ha hb hab fun j hj=>h j hj
def bor (k:Nat) (R:Nat→Nat) (r:Nat):Nat→Nat:=fun a=>if a<k then R a else r
def mi (A:Nat→Nat→Int) (R C:Nat→Nat) (k r j:Nat):Int:=det (k+1) fun a b=>A (bor k R r a) (bor k C j b)
def dd (A:Nat→Nat→Int) (R C:Nat→Nat) (k:Nat):Int:=det k fun a b=>A (R a) (C b)
theorem zQB {k a r:Nat} {R:Nat→Nat} (h:a<k):bor k R r a=R a:=if_pos h
theorem ziC {k r:Nat} {R:Nat→Nat}:bor k R r k=r:=if_neg (by omega)
theorem zyH (A:Nat→Nat→Int) (R C:Nat→Nat) (k:Nat):mi A R C k (R k) (C k)=dd A R C (k+1):=zEA fun i j hi hj=>by
 have e:∀(X:Nat→Nat) a,a<k+1→bor k X (X k) a=X a:=fun X a ha=>by
  by_cases q:a<k
  ·exact zQB q
  ·obtain rfl:a=k:=by omega
   exact ziC
 rw [e R i hi,e C j hj]
theorem mi_zero (A:Nat→Nat→Int) (R C:Nat→Nat) (r j:Nat):mi A R C 0 r j=A r j:=by
 show su 1 _=_
 rw [zxA (i:=0) (by omega) fun k _ hk=>by omega];simp [sgd,det,bor]
theorem zNH (A:Nat→Nat→Int) (R C:Nat→Nat) {k b:Nat} (r:Nat) (hb:b<k):mi A R C k r (C b)=0 :=
 ztD _ (show b<k+1 by omega) (show k<k+1 by omega) (by omega) fun i _=>by rw [zQB hb,ziC]
theorem zOH (A:Nat→Nat→Int) (R C:Nat→Nat) (k r:Nat):∃e:Nat→Int,e k=dd A R C k∧∀j,mi A R C k r j=su (k+1) fun a=>e a*A (bor k R r a) j:=by
 refine ⟨fun a=>det (k+1) (stR (fun b a=>A (bor k R r a) (C b)) k (dlz a)),?_,fun j=>?_⟩
 ·show det (k+1) (stR (fun b a=>A (bor k R r a) (C b)) k (dlz k))=_
  rw [zZB]
  show _=det k _
  rw [←zcA];exact zEA fun i j hi hj=>by rw [zQB hi]
 ·have e1:mi A R C k r j=det (k+1) (stR (fun b a=>A (bor k R r a) (C b)) k fun a=>su (k+1) fun i=>A (bor k R r i) j*dlz i a):=by
   unfold mi;rw [←zcA];refine zEA fun b a hb ha=>?_
   by_cases q:b=k
   ·subst q
    rw [zQA,ziC,zxA (i:=a) ha fun i _ hi=>by unfold dlz;rw [if_neg hi];simp];unfold dlz;simp
   ·rw [zKA _ q,zQB (R:=C) (by omega)]
  rw [e1,(zYA (k+1)).sum (by omega)];exact zJA fun a _=>Int.mul_comm _ _
theorem det_two (k:Nat) (B:Nat→Nat→Int) (u v:Nat→Int) (hu:∀j,j<k→u j=0) (hv:∀j,j<k→v j=0) :
  det (k+2) (stR (stR B k u) (k+1) v)=(u k*v (k+1)-u (k+1)*v k)*det k B:=by
 have H:=zYA (k+2);have D1:det (k+2) (stR (stR B k (dlz k)) (k+1) (dlz (k+1)))=det k B:=by
  rw [zZB (k+1),zZB k]
 have D2:det (k+2) (stR (stR B k (dlz (k+1))) (k+1) (dlz k)) = - det k B:=by
  rw [←D1];have:=H.swap (A:=stR (stR B k (dlz k)) (k+1) (dlz (k+1))) (i:=k) (k:=k+1) (by omega) (by omega) (by omega);rw [←this];refine zEA fun i j _ _=>?_
  by_cases q:i=k+1
  ·subst q;rw [zQA,zQA,zKA _ (by omega),zQA]
  ·rw [zKA _ q,zKA _ q]
   by_cases q2:i=k
   ·subst q2;rw [zQA,zQA,zQA]
   ·rw [zKA _ q2,zKA _ q2,zKA _ q,zKA _ q2]
 have D3:∀x:Nat→Int,det (k+2) (stR (stR B k x) (k+1) x)=0:=fun x=>H.same (i:=k) (k:=k+1) (by omega) (by omega) (by omega) fun j _=>by rw [zKA _ (by omega),zQA,zQA]
 have eu:∀(B:Nat→Nat→Int) (i:Nat) (u:Nat→Int),i<k+2→(∀j,j<k→u j=0)→∀B',(∀a,a≠i→B' a=B a)→B' i=u→det (k+2) B'=u k*det (k+2) (stR B i (dlz k))+u (k+1)*det (k+2) (stR B i (dlz (k+1))):=fun B i u hi hu B' h1 h2=>by
  rw [←H.lin B i (dlz k) (dlz (k+1)) (u k) (u (k+1)) hi];refine zEA fun a j ha hj=>?_
  by_cases q:a=i
  ·subst q
   rw [zQA,h2]
   by_cases q1:j=k
   ·subst q1;simp [dlz]
   ·by_cases q2:j=k+1
    ·subst q2;simp [dlz]
    ·rw [hu j (by omega)];simp [dlz,Ne.symm q1,Ne.symm q2]
  ·rw [zKA _ q,h1 a q]
 rw [eu (stR B k u) (k+1) v (by omega) hv _ (fun a ha=>zKA _ ha _) (zQA _ _ _)];have f:∀x:Nat→Int,det (k+2) (stR (stR B k u) (k+1) x)=u k*det (k+2) (stR (stR B k (dlz k)) (k+1) x)+u (k+1)*det (k+2) (stR (stR B k (dlz (k+1))) (k+1) x):=fun x=>by
  rw [zSB (by omega:k≠k+1),zSB (by omega:k≠k+1),zSB (by omega:k≠k+1)];exact eu (stR B (k+1) x) k u (by omega) hu _ (fun a ha=>zKA _ ha _) (zQA _ _ _)
 rw [f,f,D1,D2,D3,D3]
 grind
theorem zZG {n k i:Nat} (B:Nat→Nat→Int) (hi:i<n) (hk:k≤i) (e:Nat→Int) (p:Int) :
  det n (stR B i fun j=>(su k fun a=>e a*B a j)+p*B i j)=p*det n B:=by
 have H:=zYA n;rw [H.add hi,H.sum hi e B k,H.mul hi,zdB,zOC fun a ha=>?_,Int.zero_add];rw [H.same (A:=stR B i (B a)) hi (show a<n by omega) (by omega) fun j _=>by rw [zQA,zKA _ (by omega)]]
 simp
theorem mi_step (A:Nat→Nat→Int) (R C:Nat→Nat) (k r j:Nat) (hp:dd A R C k≠0) :
  dd A R C (k+1)*mi A R C k r j-mi A R C k r (C k)*mi A R C k (R k) j=dd A R C k*mi A R C (k+1) r j:=by
 obtain ⟨e,e0,he⟩:=zOH A R C k r;obtain ⟨f,f0,hf⟩:=zOH A R C k (R k);have HB:∃B:Nat→Nat→Int,B=fun a b=>A (bor (k+1) R r a) (bor (k+1) C j b):=⟨_,rfl⟩
 obtain ⟨B,hB⟩:=HB;have HG:∃G:Nat→Nat,G=bor (k+1) C j:=⟨_,rfl⟩
 obtain ⟨G,hG⟩:=HG;have Glt:∀b,b<k→G b=C b:=fun b hb=>by rw [hG];exact zQB (by omega)
 have Gk:G k=C k:=by rw [hG];exact zQB (by omega)
 have Gk1:G (k+1)=j:=by rw [hG];exact ziC
 have Bat:∀a b,B a b=A (bor (k+1) R r a) (G b):=fun a b=>by rw [hB,hG]
 have row1:∀b,(su k fun a=>f a*B a b)+dd A R C k*B k b=mi A R C k (R k) (G b):=fun b=>by
  rw [hf]
  show _=(su k _)+f k*A (bor k R (R k) k) (G b)
  rw [f0,ziC,Bat,zQB (by omega:k<k+1)]
  congr 1
  exact zJA fun a ha=>by rw [Bat,zQB (by omega),zQB ha]
 have row2:∀b,(su k fun a=>e a*B a b)+dd A R C k*B (k+1) b=mi A R C k r (G b):=fun b=>by
  rw [he]
  show _=(su k _)+e k*A (bor k R r k) (G b)
  rw [e0,ziC,Bat,ziC]
  congr 1
  exact zJA fun a ha=>by rw [Bat,zQB (by omega),zQB ha]
 have h1:=zZG (n:=k+2) (k:=k) (i:=k+1) B (by omega) (by omega) e (dd A R C k);have h2:=zZG (n:=k+2) (k:=k) (i:=k) (stR B (k+1) fun b=>(su k fun a=>e a*B a b)+dd A R C k*B (k+1) b) (by omega) (by omega) f (dd A R C k);have h3:=det_two k B (fun b=>mi A R C k (R k) (G b)) (fun b=>mi A R C k r (G b)) (fun b hb=>by rw [Glt b hb];exact zNH A R C _ hb) (fun b hb=>by rw [Glt b hb];exact zNH A R C _ hb);have e4:det (k+2) (stR (stR B k fun b=>mi A R C k (R k) (G b)) (k+1) fun b=>mi A R C k r (G b))=dd A R C k*(dd A R C k*det (k+2) B):=by
  rw [←h1,←h2,zSB (by omega:k≠k+1)];refine zEA fun a b _ _=>?_
  by_cases q:a=k
  ·subst q
   rw [zQA,zQA,←row1,zKA _ (by omega)]
   congr 1
   exact zJA fun a' ha'=>by rw [zKA _ (by omega)]
  ·rw [zKA _ q,zKA _ q]
   by_cases q2:a=k+1
   ·subst q2;rw [zQA,zQA,row2]
   ·rw [zKA _ q2,zKA _ q2]
 rw [e4] at h3;have e5:det k B=dd A R C k:=zEA fun a b ha hb=>by rw [Bat,Glt b hb,zQB (by omega)]
 have e6:det (k+2) B=mi A R C (k+1) r j:=by rw [hB];rfl
 rw [e5,e6] at h3;simp only [Gk,Gk1] at h3;rw [zyH] at h3;have h4:dd A R C k*(dd A R C k*mi A R C (k+1) r j)=dd A R C k*(dd A R C (k+1)*mi A R C k r j-mi A R C k r (C k)*mi A R C k (R k) j):=by rw [h3];grind
 exact (Int.eq_of_mul_eq_mul_left hp h4).symm
theorem zKI:∀ {n:Nat} {f:Nat→Int} {X:Nat},(∀k,k<n→(f k).natAbs≤X)→(su n f).natAbs≤n*X
 | 0,_,_,_=>by simp [su]
 | n+1,f,X,h=>by
  have h1:=zKI (n:=n) (f:=f) (X:=X) fun k hk=>h k (by omega)
  have h2:=h n (by omega);have:(su n f+f n).natAbs≤(su n f).natAbs+(f n).natAbs:=Int.natAbs_add_le _ _
  show (su n f+f n).natAbs≤(n+1)*X
  rw [Nat.succ_mul];omega
theorem zxG:∀i:Nat,(sgd i).natAbs=1
 | 0=>rfl
 | i+1=>by show (- sgd i).natAbs=1;rw [Int.natAbs_neg];exact zxG i
theorem zjF {X N:Nat}:∀ {n:Nat} {A:Nat→Nat→Int},n≤N→(∀i j,i<n→j<n→(A i j).natAbs≤X)→(det n A).natAbs≤(N*X) ^ n
 | 0,_,_,_=>by simp [det]
 | n+1,A,hn,h=>by
  have h1:(su (n+1) fun i=>sgd i*A i 0*det n (fun r c=>A (skd i r) (c+1))).natAbs≤(n+1)*(X*(N*X) ^ n):=zKI fun i hi=>by
   have h2:=zjF (X:=X) (N:=N) (n:=n) (A:=fun r c=>A (skd i r) (c+1)) (by omega) fun a b ha hb=>h (skd i a) (b+1) (by unfold skd;split <;> omega) (by omega)
   rw [Int.natAbs_mul,Int.natAbs_mul,zxG,Nat.one_mul];exact Nat.mul_le_mul (h i 0 hi (by omega)) h2
  have h3:(n+1)*(X*(N*X) ^ n)≤N*(X*(N*X) ^ n):=Nat.mul_le_mul_right _ hn;have h4:N*(X*(N*X) ^ n)=(N*X) ^ (n+1):=by rw [Nat.pow_succ,Nat.mul_comm _ (N*X),Nat.mul_assoc]
  show (su (n+1) _).natAbs≤_
  omega
theorem mi_abs {A:Nat→Nat→Int} {X N:Nat} (R C:Nat→Nat) {k r j:Nat} (hk:k+1≤N) (h:∀i j,(A i j).natAbs≤X):(mi A R C k r j).natAbs≤(N*X) ^ (k+1):=zjF hk fun _ _ _ _=>h _ _
def sgb (s:Bool):Int:=if s then -1 else 1
theorem sgb_xor (s t:Bool):sgb (s ^^ t)=sgb s*sgb t:=by cases s <;> cases t <;> rfl
def dl (M:Nat→Nat→Int) (l:List Nat):Int:=det l.length fun a b=>M a (l.getD b 0)
def Mv (l l':List Nat) (s:Bool):Prop:=∀(M:Nat→Nat→Int) (p t:List Nat),dl M (p ++ l ++ t)=sgb s*dl M (p ++ l' ++ t)
theorem Mv.refl (l:List Nat):Mv l l false:=fun M p t=>by simp [sgb]
theorem Mv.trans {a b c:List Nat} {s t:Bool} (h:Mv a b s) (h':Mv b c t):Mv a c (s ^^ t):=fun M p q=>by rw [h M p q,h' M p q,sgb_xor];grind
theorem Mv.app {l l':List Nat} {s:Bool} (h:Mv l l' s) (c:List Nat):Mv (l ++ c) (l' ++ c) s:=fun M p t=>by
 have:=h M p (c ++ t)
 simpa using this
theorem Mv.cons {l l':List Nat} {s:Bool} (h:Mv l l' s) (x:Nat):Mv (x :: l) (x :: l') s:=fun M p t=>by
 have:=h M (p ++ [x]) t
 simpa using this
theorem Mv.two (x y:Nat):Mv [x,y] [y,x] true:=fun M p t=>by
 have hl:(p ++ [x,y] ++ t).length=(p ++ [y,x] ++ t).length:=by simp
 have hi:p.length+1<(p ++ [y,x] ++ t).length:=by simp
 unfold dl;rw [hl,←zcA _ (fun a b=>M a ((p ++ [x,y] ++ t).getD b 0)),←zcA _ (fun a b=>M a ((p ++ [y,x] ++ t).getD b 0))];have h1:=(zYA (p ++ [y,x] ++ t).length).swap1 (A:=fun b a=>M a ((p ++ [y,x] ++ t).getD b 0)) (i:=p.length) hi
 show _ = -1*_
 rw [Int.neg_one_mul,←h1];refine zEA fun b a hb ha=>?_
 have gx:∀(u v:Nat) (b:Nat),(p ++ [u,v] ++ t).getD b 0=if b<p.length then p.getD b 0 else if b=p.length then u else if b=p.length+1 then v else t.getD (b-p.length-2) 0:=fun u v b=>by
  simp only [List.getD_eq_getElem?_getD,List.append_assoc]
  by_cases q:b<p.length
  ·rw [if_pos q,List.getElem?_append_left q]
  ·rw [if_neg q,List.getElem?_append_right (by omega)]
   by_cases q1:b=p.length
   ·subst q1;simp
   ·rw [if_neg q1]
    by_cases q2:b=p.length+1
    ·subst q2;simp
    ·rw [if_neg q2,show b-p.length=(b-p.length-2)+1+1 by omega];simp
 by_cases q:b=p.length+1
 ·subst q
  rw [zQA,gx,gx];simp [show ¬p.length+1<p.length by omega]
 ·rw [zKA _ q]
  by_cases q1:b=p.length
  ·subst q1
   rw [zQA,gx,gx];simp [show ¬p.length+1<p.length by omega]
  ·rw [zKA _ q1,gx,gx]
   by_cases q2:b<p.length
   ·rw [if_pos q2,if_pos q2]
   ·rw [if_neg q2,if_neg q2,if_neg q1,if_neg q1,if_neg q,if_neg q]
def par:Nat→Bool
 | 0=>false
 | n+1 => ! par n
theorem Mv.front (c:Nat):∀l:List Nat,Mv (l ++ [c]) (c :: l) (par l.length)
 | []=>Mv.refl _
 | x :: l=>by
  have h1:=(Mv.front c l).cons x;have h2:=(Mv.two x c).app l;have h3:=h1.trans h2;have e:(par l.length ^^ true)=par (x :: l).length:=by simp [par]
  rw [e] at h3;exact h3
def ins (c:Nat):List Nat→List Nat
 | []=>[c]
 | x :: l=>if c<x then c :: x :: l else x :: ins c l
def abv (c:Nat):List Nat→Nat
 | []=>0
 | x :: l=>(if c<x then 1 else 0)+abv c l
theorem zkH (c:Nat):∀ {l:List Nat},(∀x∈l,c<x)→abv c l=l.length
 | [],_=>rfl
 | x :: l,h=>by simp only [abv,List.length_cons];rw [if_pos (h x (by simp)),zkH c fun y hy=>h y (by simp [hy])];omega
theorem zjH (c:Nat):∀l m:List Nat,abv c (l ++ m)=abv c l+abv c m
 | [],m=>by simp [abv]
 | x :: l,m=>by simp only [List.cons_append,abv,zjH c l m];omega
theorem Mv.ins (c:Nat):∀ {l:List Nat},l.Pairwise (· < ·)→Mv (l ++ [c]) (ins c l) (par (abv c l))
 | [],_=>Mv.refl _
 | x :: l,h=>by
  rw [List.pairwise_cons] at h;unfold Proofs.YtjnokjgbeploaaaGreat.ins
  by_cases q:c<x
  ·rw [if_pos q,zkH c (l:=x :: l) fun y hy=>by
    rcases List.mem_cons.1 hy with rfl | hy
    ·exact q
    ·have:=h.1 y hy;omega]
   exact Mv.front c (x :: l)
  ·rw [if_neg q]
   have e:abv c (x :: l)=abv c l:=by simp only [abv];rw [if_neg q];omega
   rw [e];exact (Mv.ins c h.2).cons x
theorem ins_mem {c y:Nat}:∀ {l:List Nat},y∈ins c l↔y=c∨y∈l
 | []=>by simp [ins]
 | x :: l=>by
  unfold ins
  split
  ·simp
  ·rw [List.mem_cons,ins_mem (l:=l),List.mem_cons]
   constructor
   ·rintro (h | h | h)
    ·exact .inr (.inl h)
    ·exact .inl h
    ·exact .inr (.inr h)
   ·rintro (h | h | h)
    ·exact .inr (.inl h)
    ·exact .inl h
    ·exact .inr (.inr h)
theorem zZE (c:Nat):∀l:List Nat,(ins c l).length=l.length+1
 | []=>rfl
 | x :: l=>by
  unfold ins
  split
  ·rfl
  ·rw [List.length_cons,zZE c l,List.length_cons]
theorem zSG {c:Nat}:∀ {l:List Nat},l.Pairwise (· < ·)→c ∉ l→(ins c l).Pairwise (· < ·)
 | [],_,_=>by simp [ins]
 | x :: l,h,hc=>by
  have h':=List.pairwise_cons.1 h;unfold ins
  split
  ·next q =>
   refine List.pairwise_cons.2 ⟨fun y hy=>?_,h⟩;rcases List.mem_cons.1 hy with rfl | hy
   ·exact q
   ·have:=h'.1 y hy;omega
  ·next q =>
   have hcx:c≠x:=fun e=>hc (by simp [e])
   refine List.pairwise_cons.2 ⟨fun y hy=>?_,zSG h'.2 fun hm=>hc (by simp [hm])⟩;rcases ins_mem.1 hy with rfl | hy
   ·omega
   ·exact h'.1 y hy
def srt (cs:List Nat):List Nat:=cs.foldl (fun l c=>ins c l) []
theorem zbF (cs:List Nat) (c:Nat):srt (cs ++ [c])=ins c (srt cs):=by simp [srt]
theorem ziH (c d:Nat):∀l:List Nat,abv c (ins d l)=abv c (d :: l)
 | []=>rfl
 | x :: l=>by
  unfold ins
  split
  ·rfl
  ·simp only [abv]
   rw [ziH c d l];simp only [abv];omega
theorem zYF (c:Nat):∀(cs l:List Nat),abv c (cs.foldl (fun l c=>ins c l) l)=abv c cs+abv c l
 | [],l=>by simp [abv]
 | d :: cs,l=>by
  rw [List.foldl_cons,zYF c cs,ziH];simp only [abv];omega
theorem abv_srt (c:Nat) (cs:List Nat):abv c (srt cs)=abv c cs:=by unfold srt;rw [zYF];simp [abv]
theorem zjI:∀ {l:List Nat} {b:Nat},l.Pairwise (· < ·)→(∀x∈l,b≤x)→∀i,i<l.length→b+i≤l.getD i 0
 | [],b,_,_,i,hi=>by simp at hi
 | x :: l,b,h,hb,i,hi=>by
  have h':=List.pairwise_cons.1 h;cases i with
  | zero=>simpa using hb x (by simp)
  | succ i =>
   have:=zjI (l:=l) (b:=b+1) h'.2 (fun y hy=>by have:=h'.1 y hy;have:=hb x (by simp);omega) i (by simpa using hi);simp only [List.getD_cons_succ];omega
theorem zwI {l:List Nat} (h:l.Pairwise (· < ·)) {i j:Nat} (hij:i<j) (hj:j<l.length):l.getD i 0<l.getD j 0:=by
 have:=List.pairwise_iff_getElem.1 h i j (by omega) hj hij
 simpa [show i<l.length by omega,hj] using this
theorem zrG {l:List Nat} (h:l.Pairwise (· < ·)) {n:Nat} (hn:∀x∈l,x<n) (hl:l.length=n) {i:Nat} (hi:i<n):l.getD i 0=i:=by
 have h1:=zjI h (b:=0) (fun x _=>by omega) i (by omega);have h2:∀d j,j+d+1=n→l.getD j 0+d<n:=by
  intro d
  induction d with
  | zero =>
   intro j hj;have:l.getD j 0∈l:=by simp [show j<l.length by omega]
   have:=hn _ this;omega
  | succ d ih =>
   intro j hj;have a:=ih (j+1) (by omega);have b:=zwI h (i:=j) (j:=j+1) (by omega) (by omega);omega
 have:=h2 (n-i-1) i (by omega);omega
section
variable (A:Nat→Nat→Int)
abbrev gd (l:List Nat):Nat→Nat:=fun a=>l.getD a 0
structure Stz (n i:Nat) (rs cs:List Nat) (odd:Bool):Prop where
 len:cs.length=rs.length
 up:rs.Pairwise (· < ·)
 lt:∀r∈rs,r<i
 cl:∀c∈cs,c<n
 nz:∀k,k≤rs.length→dd A (gd rs) (gd cs) k≠0
 low:∀k j,k<rs.length→j<cs.getD k 0→mi A (gd rs) (gd cs) k (rs.getD k 0) j=0
 drop:∀r,r<i→r ∉ rs→∃k,k≤rs.length∧(∀a,a<k→rs.getD a 0<r)∧∀j,j<n→mi A (gd rs) (gd cs) k r j=0
 srt:(srt cs).Pairwise (· < ·)∧(srt cs).length=cs.length∧(∀c,c∈srt cs↔c∈cs)
 mv:Mv cs (Proofs.YtjnokjgbeploaaaGreat.srt cs) odd
variable {A}
theorem zBC {R R' C C':Nat→Nat} {k:Nat} (hR:∀a,a<k→R a=R' a) (hC:∀a,a<k→C a=C' a) (r j:Nat):mi A R C k r j=mi A R' C' k r j:=zEA fun a b ha hb=>by
 have e:∀(X X':Nat→Nat) (y a:Nat),(∀a,a<k→X a=X' a)→bor k X y a=bor k X' y a:=fun X X' y a h=>by
  unfold bor
  split
  ·next q=>exact h _ q
  ·rfl
 rw [e R R' r a hR,e C C' j b hC]
theorem dd_congr {R R' C C':Nat→Nat} {k:Nat} (hR:∀a,a<k→R a=R' a) (hC:∀a,a<k→C a=C' a):dd A R C k=dd A R' C' k:=zEA fun a b ha hb=>by rw [hR a ha,hC b hb]
theorem zED {l m:List Nat} {a:Nat} (h:a<l.length):gd (l ++ m) a=gd l a:=by simp [gd,List.getElem?_append_left h]
theorem zVH {l:List Nat} {x:Nat}:gd (l ++ [x]) l.length=x:=by simp [gd]
theorem Stz.start (n:Nat):Stz A n 0 [] [] false :=
 ⟨rfl,List.Pairwise.nil,fun r h=>by simp at h,fun r h=>by simp at h,fun k hk=>by
  obtain rfl:k=0:=by simpa using hk
  simp [dd,det],fun k j hk=>by simp at hk,fun r hr=>by omega,⟨List.Pairwise.nil,rfl,fun c=>Iff.rfl⟩,Mv.refl _⟩
theorem Stz.skip {n i:Nat} {rs cs:List Nat} {odd:Bool} (h:Stz A n i rs cs odd) (hz:∀j,j<n→mi A (gd rs) (gd cs) rs.length i j=0):Stz A n (i+1) rs cs odd :=
 ⟨h.len,h.up,fun r hr=>by have:=h.lt r hr;omega,h.cl,h.nz,h.low,fun r hr hn=>by
  by_cases q:r=i
  ·subst q
   exact ⟨rs.length,Nat.le_refl _,fun a ha=>h.lt _ (by simp [ha]),hz⟩
  ·exact h.drop r (by omega) hn,h.srt,h.mv⟩
theorem Stz.keep {n i c:Nat} {rs cs:List Nat} {odd:Bool} (h:Stz A n i rs cs odd) (hc:c<n) (hn:mi A (gd rs) (gd cs) rs.length i c≠0) (hz:∀j,j<c→mi A (gd rs) (gd cs) rs.length i j=0):Stz A n (i+1) (rs ++ [i]) (cs ++ [c]) (odd ^^ par (abv c cs)):=by
 have hl:=h.len;have oR:∀k,k≤rs.length→∀a,a<k→gd (rs ++ [i]) a=gd rs a:=fun k hk a ha=>zED (by omega)
 have oC:∀k,k≤rs.length→∀a,a<k→gd (cs ++ [c]) a=gd cs a:=fun k hk a ha=>zED (by omega)
 have eR:gd (rs ++ [i]) rs.length=i:=zVH;have eC:gd (cs ++ [c]) rs.length=c:=by rw [←hl];exact zVH
 have hmem:c ∉ cs:=fun hm=>by
  obtain ⟨b,hb,e⟩:=List.getElem_of_mem hm;have:gd cs b=c:=by simp [gd,hb,e]
  exact hn (by rw [←this];exact zNH A _ _ _ (by omega))
 refine ⟨by simp [hl],?_,?_,?_,fun k hk=>?_,fun k j hk hj=>?_,fun r hr hnm=>?_,?_,?_⟩
 ·rw [List.pairwise_append]
  exact ⟨h.up,by simp,fun a ha b hb=>by simp at hb;subst hb;exact h.lt a ha⟩
 ·intro r hr
  rcases List.mem_append.1 hr with q | q
  ·have:=h.lt r q;omega
  ·simp at q;omega
 ·intro r hr
  rcases List.mem_append.1 hr with q | q
  ·exact h.cl r q
  ·simp at q;omega
 ·simp only [List.length_append,List.length_cons,List.length_nil] at hk
  by_cases q:k≤rs.length
  ·rw [dd_congr (oR k q) (oC k q)];exact h.nz k q
  ·obtain rfl:k=rs.length+1:=by omega
   rw [←zyH,eR,eC,zBC (oR _ (Nat.le_refl _)) (oC _ (Nat.le_refl _))];exact hn
 ·simp only [List.length_append,List.length_cons,List.length_nil] at hk
  by_cases q:k<rs.length
  ·rw [zBC (oR k (by omega)) (oC k (by omega))]
   have e1:(rs ++ [i]).getD k 0=rs.getD k 0:=zED q;have e2:(cs ++ [c]).getD k 0=cs.getD k 0:=zED (by omega);rw [e1];rw [e2] at hj;exact h.low k j q hj
  ·obtain rfl:k=rs.length:=by omega
   have e1:(rs ++ [i]).getD rs.length 0=i:=eR;have e2:(cs ++ [c]).getD rs.length 0=c:=eC;rw [zBC (oR _ (by omega)) (oC _ (by omega)),e1];rw [e2] at hj;exact hz j hj
 ·have q:r≠i:=fun q=>hnm (by simp [q])
  obtain ⟨k,h1,h2,h3⟩:=h.drop r (by omega) (fun hm=>hnm (by simp [hm]));refine ⟨k,by simp;omega,fun a ha=>?_,fun j hj=>?_⟩
  ·have e1:(rs ++ [i]).getD a 0=rs.getD a 0:=zED (by omega)
   rw [e1];exact h2 a ha
  ·rw [zBC (oR k h1) (oC k h1)];exact h3 j hj
 ·obtain ⟨h1,h2,h3⟩:=h.srt
  rw [zbF];refine ⟨zSG h1 (fun hm=>hmem ((h3 c).1 hm)),by rw [zZE,h2];simp,fun d=>?_⟩;rw [ins_mem,h3,List.mem_append,List.mem_singleton];exact Or.comm
 ·rw [zbF]
  have h1:=h.mv.app [c];have h2:=Mv.ins c h.srt.1;rw [abv_srt] at h2;exact h1.trans h2
theorem dep_of {i k r:Nat} (S:Nat→Nat) (e:Nat→Int) (hS:∀a,a≤k→S a<i) (hk:S k=r) (hne:∀a,a<k→S a≠r) (he:e k≠0) (h:∀j,j<i→su (k+1) (fun a=>e a*A (S a) j)=0):det i A=0:=by
 refine det_dep (r:=r) A (by rw [←hk];exact hS k (Nat.le_refl _)) (fun q=>su (k+1) fun a=>if S a=q then e a else 0) ?_ fun j hj=>?_
 ·show su (k+1) (fun a=>if S a=r then e a else 0)≠0
  rw [zxA (i:=k) (by omega) fun a ha hak=>if_neg (hne a (by omega)),if_pos hk];exact he
 ·show su i (fun q=>(su (k+1) fun a=>if S a=q then e a else 0)*A q j)=0
  refine Eq.trans ?_ (h j hj);have e1:su i (fun q=>(su (k+1) fun a=>if S a=q then e a else 0)*A q j)=su i fun q=>su (k+1) fun a=>(if S a=q then e a else 0)*A q j:=zJA fun q _=>(zQE _ _ _).symm
  rw [e1,zZF];refine zJA fun a ha=>?_
  rw [zxA (i:=S a) (hS a (by omega)) fun q _ hq=>by rw [if_neg (Ne.symm hq)];simp,if_pos rfl]
theorem zTI {n i k r:Nat} {R C:Nat→Nat} (hR:∀a,a<k→R a<i∧R a≠r) (hr:r<i) (hd:dd A R C k≠0) (h:∀j,j<i→mi A R C k r j=0):det i A=0:=by
 obtain ⟨e,e0,he⟩:=zOH A R C k r;refine dep_of (k:=k) (r:=r) (bor k R r) e (fun a ha=>?_) ziC (fun a ha=>?_) (by rw [e0];exact hd) fun j hj=>by rw [←he];exact h j hj
 ·by_cases q:a<k
  ·rw [zQB q];exact (hR a q).1
  ·obtain rfl:a=k:=by omega
   rw [ziC];exact hr
 ·rw [zQB ha];exact (hR a ha).2
def detS (A:Nat→Nat→Int) (rs cs:List Nat) (odd:Bool):Int:=sgb odd*dd A (gd rs) (gd cs) rs.length
theorem Stz.core {n i:Nat} {rs cs:List Nat} {odd:Bool} (h:Stz A n i rs cs odd):detS A rs cs odd=det rs.length fun a b=>A (rs.getD a 0) ((Proofs.YtjnokjgbeploaaaGreat.srt cs).getD b 0):=by
 have h1:=h.mv (fun a b=>A (rs.getD a 0) b) [] [];simp only [List.nil_append,List.append_nil] at h1;unfold dl at h1;rw [h.srt.2.1,h.len] at h1;unfold detS dd
 show sgb odd*det rs.length (fun a b=>A (rs.getD a 0) (cs.getD b 0))=_
 rw [h1,←Int.mul_assoc];have:sgb odd*sgb odd=1:=by cases odd <;> rfl
 rw [this,Int.one_mul]
theorem Stz.lead {n i:Nat} {rs cs:List Nat} {odd:Bool} (h:Stz A n i rs cs odd) (hi:i≤n):det i A=if rs.length<i∨∃c∈cs,i≤c then 0 else detS A rs cs odd:=by
 by_cases q:rs.length<i∨∃c∈cs,i≤c
 ·rw [if_pos q]
  rcases q with q | ⟨c,hc,hci⟩
  ·obtain ⟨r,hr,hn⟩:∃r,r<i∧r ∉ rs:=by
    apply Classical.byContradiction
    intro hcon;have hall:∀r,r<i→r∈rs:=fun r hr=>Classical.byContradiction fun hm=>hcon ⟨r,hr,hm⟩
    have:(List.range i).length≤rs.length:=List.nodup_range.length_le_of_subset fun r hr=>hall r (by simpa using hr)
    simp at this;omega
   obtain ⟨k,h1,h2,h3⟩:=h.drop r hr hn;exact zTI (n:=n) (k:=k) (r:=r) (R:=gd rs) (C:=gd cs) (fun a ha=>by have:=h2 a ha;exact ⟨by show rs.getD a 0<i;omega,by show rs.getD a 0≠r;omega⟩) hr (h.nz k h1) fun j hj=>h3 j (by omega)
  ·obtain ⟨k,hk,e⟩:=List.getElem_of_mem hc
   have ek:cs.getD k 0=c:=by simp [hk,e]
   have hk':k<rs.length:=by rw [←h.len];exact hk
   have hm:rs.getD k 0∈rs:=by simp [hk']
   refine zTI (n:=n) (k:=k) (r:=rs.getD k 0) (R:=gd rs) (C:=gd cs) (fun a ha=>?_) (h.lt _ hm) (h.nz k (by omega)) fun j hj=>h.low k j hk' (by omega)
   have hma:rs.getD a 0∈rs:=by simp [show a<rs.length by omega]
   have:=zwI h.up ha hk';exact ⟨h.lt _ hma,by show rs.getD a 0≠_;omega⟩
 ·rw [if_neg q,h.core]
  have q1:¬rs.length<i:=fun x=>q (.inl x)
  have hl:rs.length=i:=by
   have:rs.length≤(List.range i).length:=List.Nodup.length_le_of_subset (h.up.imp fun hab=>Nat.ne_of_lt hab) fun r hr=>by simpa using h.lt r hr
   simp at this;omega
  have hc:∀c∈Proofs.YtjnokjgbeploaaaGreat.srt cs,c<i:=fun c hc=>by
   apply Classical.byContradiction
   intro x;exact q (.inr ⟨c,(h.srt.2.2 c).1 hc,by omega⟩)
  rw [hl];refine zEA fun a b ha hb=>?_
  rw [zrG h.up h.lt hl ha,zrG h.srt.1 hc (by rw [h.srt.2.1,h.len,hl]) hb]
end
end Go.Proofs.YtjnokjgbeploaaaGreat
