/-
 QCr13ToCb23: Cr13, Uq13, Sp13, Gc14, Sq14, Cb23, joined.
-/
import Derived.Test.YtjnokjgbeploaaaGreatQBz13ToSt13

set_option maxRecDepth 100000
set_option maxHeartbeats 6400000
set_option linter.unusedVariables false
set_option linter.unusedSimpArgs false
namespace Go.Proofs.YtjnokjgbeploaaaGreat
theorem zJI {r:Nat} {f:Nat→Int}:∀ {m:Nat},r≤m→(∀k,r≤k→k<m→f k=0)→su m f=su r f
 | 0,h,_=>by
  obtain rfl:r=0:=by omega
  rfl
 | m+1,h,hz=>by
  by_cases e:r=m+1
  ·subst e;rfl
  ·show su m f+f m=su r f
   rw [zJI (m:=m) (by omega) (fun k h1 h2=>hz k h1 (by omega)),hz m (by omega) (by omega)];omega
section
variable {A:Nat→Nat→Int} {n i:Nat} {rs cs rs' cs':List Nat} {odd odd':Bool}
end
def Sp (n t:Nat) (L:Nat→Nat→Int) (v:Nat→Int):Prop:=∃(N:Int) (e:Nat→Int),N≠0∧∀j,j<n→N*v j=su t fun a=>e a*L a j
section
variable {n t:Nat} {L:Nat→Nat→Int} {u v:Nat→Int}
theorem Sp.zero (h:∀j,j<n→v j=0):Sp n t L v:=⟨1,fun _=>0,by decide,fun j hj=>by rw [h j hj,zOC fun k _=>by simp];simp⟩
theorem Sp.one {a:Nat} (ha:a<t) (h:∀j,j<n→v j=L a j):Sp n t L v:=⟨1,dlz a,by decide,fun j hj=>by
 rw [h j hj,zxA (i:=a) ha fun k _ hk=>by unfold dlz;rw [if_neg (Ne.symm hk)];simp];unfold dlz;simp⟩
theorem Sp.add (hu:Sp n t L u) (hv:Sp n t L v):Sp n t L fun j=>u j+v j:=by
 obtain ⟨N,e,hN,he⟩:=hu;obtain ⟨M,f,hM,hf⟩:=hv;refine ⟨N*M,fun a=>M*e a+N*f a,Int.mul_ne_zero hN hM,fun j hj=>?_⟩;have e1:su t (fun a=>(M*e a+N*f a)*L a j)=M*su t (fun a=>e a*L a j)+N*su t (fun a=>f a*L a j):=by
  rw [←zWB,←zWB,←zZD];exact zJA fun k _=>by grind
 rw [e1,←he j hj,←hf j hj]
 grind
theorem Sp.mul (x:Int) (hu:Sp n t L u):Sp n t L fun j=>x*u j:=by
 obtain ⟨N,e,hN,he⟩:=hu;refine ⟨N,fun a=>x*e a,hN,fun j hj=>?_⟩;have e1:su t (fun a=>(x*e a)*L a j)=x*su t (fun a=>e a*L a j):=by
  rw [←zWB];exact zJA fun k _=>by grind
 rw [e1,←he j hj]
 grind
theorem Sp.div {x:Int} (hx:x≠0) (hu:Sp n t L fun j=>x*u j):Sp n t L u:=by
 obtain ⟨N,e,hN,he⟩:=hu;exact ⟨N*x,e,Int.mul_ne_zero hN hx,fun j hj=>by rw [←he j hj];grind⟩
theorem Sp.congr (hu:Sp n t L u) (h:∀j,j<n→v j=u j):Sp n t L v:=by
 obtain ⟨N,e,hN,he⟩:=hu;exact ⟨N,e,hN,fun j hj=>by rw [h j hj];exact he j hj⟩
theorem Sp.sum {K:Nat→Nat→Int} (x:Nat→Int):∀ {s:Nat},(∀a,a<s→Sp n t L (K a))→Sp n t L fun j=>su s fun a=>x a*K a j
 | 0,_=>Sp.zero fun j _=>rfl
 | s+1,h=>(Sp.sum x (s:=s) fun a ha=>h a (by omega)).add ((h s (by omega)).mul (x s))
end
def prn:Nat→(Nat→Int)→Int
 | 0,_=>1
 | n+1,N=>N 0*prn n fun k=>N (k+1)
theorem zPI:∀ {n:Nat} {N:Nat→Int},(∀k,k<n→N k≠0)→prn n N≠0
 | 0,_,_=>by show (1:Int)≠0;decide
 | n+1,N,h=>Int.mul_ne_zero (h 0 (by omega)) (zPI fun k hk=>h (k+1) (by omega))
theorem zsD:∀(n:Nat) (N:Nat→Int) (A:Nat→Nat→Int),det n (fun a b=>N a*A a b)=prn n N*det n A
 | 0,_,_=>rfl
 | n+1,N,A=>by
  rw [zuD,zuD];unfold exd
  show _=(N 0*prn n fun k=>N (k+1))*_
  rw [←zWB];refine zJA fun j _=>?_
  rw [zsD n (fun k=>N (k+1)) (fun r c=>A (r+1) (skd j c))]
  grind
theorem Sp.det0 {n t s:Nat} {L X:Nat→Nat→Int} (h:∀a,a<s→Sp n t L (X a)) (hts:t<s) {M:Nat→Nat} (hM:∀b,b<s→M b<n):det s (fun a b=>X a (M b))=0:=by
 have hc:∀a,∃(N:Int) (e:Nat→Int),N≠0∧(a<s→∀j,j<n→N*X a j=su t fun k=>e k*L k j):=fun a=>by
  by_cases q:a<s
  ·obtain ⟨N,e,h1,h2⟩:=h a q
   exact ⟨N,e,h1,fun _=>h2⟩
  ·exact ⟨1,fun _=>0,by decide,fun q'=>absurd q' q⟩
 have hN:=fun a=>(hc a).choose_spec
 obtain ⟨N,hNd⟩:∃N:Nat→Int,N=fun a=>(hc a).choose:=⟨_,rfl⟩
 have hE:∀a,∃e:Nat→Int,N a≠0∧(a<s→∀j,j<n→N a*X a j=su t fun k=>e k*L k j):=fun a=>by
  rw [hNd];exact hN a
 obtain ⟨E,hEd⟩:∃E:Nat→Nat→Int,E=fun a=>(hE a).choose:=⟨_,rfl⟩
 have hF:∀a,N a≠0∧(a<s→∀j,j<n→N a*X a j=su t fun k=>E a k*L k j):=fun a=>by
  rw [hEd];exact (hE a).choose_spec
 have e1:det s (fun a b=>N a*X a (M b))=det s (muz s (fun a k=>if k<t then E a k else 0) fun k b=>L k (M b)):=zEA fun a b ha hb=>by
  unfold muz;rw [(hF a).2 ha _ (hM b hb),zJI (r:=t) (m:=s) (by omega) (fun k h1 _=>by simp only [];rw [if_neg (by omega)];simp)];exact zJA fun k hk=>by simp only [];rw [if_pos hk]
 have e2:det s (fun a k=>if k<t then E a k else 0)=0:=by
  rw [←zcA];exact (zYA s).nul (i:=t) hts fun j _=>by rw [if_neg (by omega)]
 rw [zbH,e2,zsD s N (fun a b=>X a (M b))] at e1;have e3:=zPI (n:=s) (N:=N) fun k _=>(hF k).1
 rcases Int.mul_eq_zero.1 (e1.trans (Int.zero_mul _)) with q | q
 ·exact absurd q e3
 ·exact q
section
variable {A:Nat→Nat→Int} {n i:Nat} {rs cs:List Nat} {odd:Bool}
end
section
variable {A B:Nat→Nat→Int} {n i k:Nat} {rs cs rs' cs':List Nat} {odd odd':Bool}
end
theorem zNI:∀(n:Nat) (l:List Nat),l.length=n→l.Nodup→(∃s,Mv l (srt l) s)∧(srt l).Pairwise (· < ·)∧(srt l).length=l.length∧∀c,c∈srt l↔c∈l
 | 0,l,h,_=>by
  obtain rfl:=List.length_eq_zero_iff.1 h;exact ⟨⟨false,Mv.refl _⟩,by simp [srt],rfl,fun c=>by simp [srt]⟩
 | n+1,l,h,hn=>by
  have hne:l≠[]:=fun e=>by subst e;simp at h
  obtain ⟨m,c,rfl⟩:∃m c,l=m ++ [c]:=⟨l.dropLast,l.getLast hne,(List.dropLast_concat_getLast hne).symm⟩
  have hn':=List.nodup_append.1 hn;obtain ⟨⟨s,h1⟩,h2,h3,h4⟩:=zNI n m (by simpa using h) hn'.1;have hc:c ∉ srt m:=fun q=>hn'.2.2 c ((h4 c).1 q) c (by simp) rfl
  rw [zbF];refine ⟨⟨_,(h1.app [c]).trans (Mv.ins c h2)⟩,zSG h2 hc,by rw [zZE,h3];simp,fun x=>?_⟩;rw [ins_mem,h4 x]
  simp
  exact Or.comm
theorem dl_dup {M:Nat→Nat→Int} {l:List Nat} (h:¬l.Nodup):dl M l=0:=by
 have:∃a b,a<b∧b<l.length∧l.getD a 0=l.getD b 0:=by
  apply Classical.byContradiction
  intro q;refine h (List.pairwise_iff_getElem.2 fun a b ha hb hab e=>q ⟨a,b,hab,hb,?_⟩);simp [ha,hb,e]
 obtain ⟨a,b,hab,hb,e⟩:=this;exact ztD _ (show a<l.length by omega) hb (by omega) fun r _=>by rw [e]
theorem zXG {p:Int} {M:Nat→Nat→Int} {n k:Nat} (h:∀cs:List Nat,cs.length=k→cs.Pairwise (· < ·)→(∀c∈cs,c<n)→p ∣ dl M cs) (l:List Nat) (hl:l.length=k) (hn:∀c∈l,c<n):p ∣ dl M l:=by
 by_cases q:l.Nodup
 ·obtain ⟨⟨s,h1⟩,h2,h3,h4⟩:=zNI _ l rfl q
  have e:=h1 M [] [];simp only [List.nil_append,List.append_nil] at e;rw [e];exact Int.dvd_mul_of_dvd_right (h _ (by rw [h3,hl]) h2 fun c hc=>hn c ((h4 c).1 hc))
 ·rw [dl_dup q];exact Int.dvd_zero p
theorem zMG {k:Nat} (R:Nat→Nat) {a:Nat} (ha:a<k):((List.range k).map R).getD a 0=R a:=by simp [ha]
theorem dvd_minors {p:Int} {A:Nat→Nat→Int} {i n k:Nat} (h:∀rs cs:List Nat,rs.length=k→cs.length=k→rs.Pairwise (· < ·)→cs.Pairwise (· < ·)→(∀r∈rs,r<i)→(∀c∈cs,c<n)→p ∣ det k fun a b=>A (rs.getD a 0) (cs.getD b 0))
  (R M:Nat→Nat) (hR:∀a,a<k→R a<i) (hM:∀b,b<k→M b<n):p ∣ det k fun a b=>A (R a) (M b):=by
 have h1:∀rs:List Nat,rs.length=k→rs.Pairwise (· < ·)→(∀r∈rs,r<i)→p ∣ det k fun a b=>A (rs.getD a 0) (M b):=fun rs l1 u1 b1=>by
  have:=zXG (p:=p) (M:=fun a b=>A (rs.getD a 0) b) (n:=n) (k:=k) (fun cs l2 u2 b2=>by
   have:=h rs cs l1 l2 u1 u2 b1 b2;unfold dl;rw [l2];exact this) ((List.range k).map M) (by simp) (fun c hc=>by
    obtain ⟨x,hx,rfl⟩:=List.mem_map.1 hc;exact hM x (List.mem_range.1 hx))
  unfold dl at this;rw [List.length_map,List.length_range] at this;rw [zEA (B:=fun a b=>A (rs.getD a 0) (((List.range k).map M).getD b 0)) fun a b ha hb=>by rw [zMG M hb]];exact this
 have:=zXG (p:=p) (M:=fun a b=>A b (M a)) (n:=i) (k:=k) (fun cs l2 u2 b2=>by
  have:=h1 cs l2 u2 b2;unfold dl;rw [l2,←zcA];exact this) ((List.range k).map R) (by simp) (fun c hc=>by
   obtain ⟨x,hx,rfl⟩:=List.mem_map.1 hc;exact hR x (List.mem_range.1 hx))
 unfold dl at this;rw [List.length_map,List.length_range,←zcA] at this;rw [zEA (B:=fun a b=>A (((List.range k).map R).getD a 0) (M b)) fun a b ha hb=>by rw [zMG R ha]];exact this
def Dvm (p:Int) (A:Nat→Nat→Int) (i n k:Nat):Prop:=∀R M:Nat→Nat,(∀a,a<k→R a<i)→(∀b,b<k→M b<n)→p ∣ det k fun a b=>A (R a) (M b)
def seqN (a:Nat):Nat→List Nat
 | 0=>[]
 | k+1=>a :: seqN (a+1) k
theorem zSE:∀k a,(seqN a k).length=k
 | 0,_=>rfl
 | k+1,a=>by simp [seqN,zSE k]
theorem zeF:∀(k a i:Nat),i<k→(seqN a k).getD i 0=a+i
 | k+1,a,0,_=>rfl
 | k+1,a,i+1,h=>by
  show (seqN (a+1) k).getD i 0=_
  rw [zeF k (a+1) i (by omega)];omega
theorem seqN_range (k:Nat):seqN 0 k=List.range k:=by
 refine List.ext_getElem (by simp [zSE]) fun i h1 h2=>?_
 have:=zeF k 0 i (by simpa [zSE] using h1)
 simpa [List.getD_eq_getElem?_getD,List.getElem?_eq_getElem h1] using this
def nxt (n:Nat):List Nat→Option (List Nat)
 | []=>none
 | a :: l=>match nxt n l with
  | some l'=>some (a :: l')
  | none=>if a+l.length+1<n then some (seqN (a+1) (l.length+1)) else none
theorem zeB {n a:Nat} {l l':List Nat} (h:nxt n l=some l'):nxt n (a :: l)=some (a :: l'):=by simp [nxt,h]
theorem zCB {n a:Nat} {l:List Nat} (h:nxt n l=none):nxt n (a :: l)=if a+l.length+1<n then some (seqN (a+1) (l.length+1)) else none:=by simp [nxt,h]
theorem zHH {n:Nat} {q q':List Nat} (h:nxt n q=some q'):∀p:List Nat,nxt n (p ++ q)=some (p ++ q')
 | []=>h
 | a :: p=>zeB (zHH h p)
def lx (n:Nat):Nat→Nat→List (List Nat)
 | 0,_=>[[]]
 | _+1,0=>[]
 | k+1,d+1=>(lx n k d).map (fun l=>(n-(d+1)) :: l) ++ lx n (k+1) d
def cho:Nat→Nat→Nat
 | _,0=>1
 | 0,_+1=>0
 | d+1,k+1=>cho d k+cho d (k+1)
theorem zBF (n:Nat):∀d k,(lx n k d).length=cho d k
 | d,0=>by cases d <;> simp [lx,cho]
 | 0,k+1=>by simp [lx,cho]
 | d+1,k+1=>by simp [lx,cho,zBF n d k,zBF n d (k+1)]
theorem zBD (n:Nat):∀d k (l:List Nat),d≤n→(l∈lx n k d↔l.length=k∧l.Pairwise (· < ·)∧∀x∈l,n-d≤x∧x<n)
 | d,0,l,_=>by
  have e:lx n 0 d=[[]]:=by cases d <;> rfl
  rw [e,List.mem_singleton]
  constructor
  ·rintro rfl;simp
  ·intro h;exact List.length_eq_zero_iff.1 h.1
 | 0,k+1,l,_=>by
  show l∈[]↔_
  constructor
  ·intro h;cases h
  ·rintro ⟨h1,_,h3⟩
   match l,h1,h3 with
   | x :: l,_,h3=>have:=h3 x (by simp);omega
 | d+1,k+1,l,hd=>by
  show l∈(lx n k d).map (fun l=>(n-(d+1)) :: l) ++ lx n (k+1) d↔_
  rw [List.mem_append,List.mem_map,zBD n d (k+1) l (by omega)]
  constructor
  ·rintro (⟨m,hm,rfl⟩ | ⟨h1,h2,h3⟩)
   ·obtain ⟨h1,h2,h3⟩:=(zBD n d k m (by omega)).1 hm
    refine ⟨by simp [h1],List.pairwise_cons.2 ⟨fun x hx=>?_,h2⟩,fun x hx=>?_⟩
    ·have:=h3 x hx;omega
    ·rcases List.mem_cons.1 hx with rfl | hx
     ·omega
     ·have:=h3 x hx;omega
   ·exact ⟨h1,h2,fun x hx=>by have:=h3 x hx;omega⟩
  ·rintro ⟨h1,h2,h3⟩
   match l,h1,h2,h3 with
   | x :: m,h1,h2,h3 =>
    have h2':=List.pairwise_cons.1 h2;have hx:=h3 x (by simp)
    by_cases q:x=n-(d+1)
    ·refine .inl ⟨m,(zBD n d k m (by omega)).2 ⟨by simpa using h1,h2'.2,fun y hy=>?_⟩,by rw [q]⟩
     have:=h2'.1 y hy;have:=h3 y (by simp [hy]);omega
    ·refine .inr ⟨h1,h2,fun y hy=>?_⟩
     rcases List.mem_cons.1 hy with rfl | hy
     ·omega
     ·have:=h2'.1 y hy
      have:=h3 y (by simp [hy]);omega
def Run (n:Nat):List (List Nat)→Prop
 | []=>False
 | [x]=>nxt n x=none
 | x :: y :: r=>nxt n x=some y∧Run n (y :: r)
theorem zAH {n a k:Nat} (ha:n≤a+k+1):∀ {P:List (List Nat)},Run n P→(∀x∈P,x.length=k)→Run n (P.map fun l=>a :: l)
 | [x],h,hl=>by
  show nxt n (a :: x)=none
  rw [zCB h,if_neg (by have:=hl x (by simp);omega)]
 | x :: y :: r,h,hl=>⟨zeB h.1,zAH ha (P:=y :: r) h.2 fun z hz=>hl z (by simp at hz ⊢;exact .inr hz)⟩
theorem zBH {n a k:Nat} (ha:a+k+1<n) {q:List Nat} {Q:List (List Nat)} (hq:q=seqN (a+1) (k+1)) (hQ:Run n (q :: Q)):∀ {P:List (List Nat)},Run n P→(∀x∈P,x.length=k)→Run n (P.map (fun l=>a :: l) ++ q :: Q)
 | [x],h,hl=>by
  refine ⟨?_,hQ⟩;have e:=hl x (by simp);rw [zCB h,if_pos (by omega),hq,e]
 | x :: y :: r,h,hl=>⟨zeB h.1,zBH ha hq hQ (P:=y :: r) h.2 fun z hz=>hl z (by simp at hz ⊢;exact .inr hz)⟩
theorem zNG (n:Nat):∀d k,d≤n→k≤d→∃R,lx n k d=seqN (n-d) k :: R∧Run n (seqN (n-d) k :: R)
 | d,0,_,_=>by
  have e:lx n 0 d=[[]]:=by cases d <;> rfl
  exact ⟨[],e,rfl⟩
 | 0,k+1,_,h=>by omega
 | d+1,k+1,hd,hk=>by
  obtain ⟨R,e,hR⟩:=zNG n d k (by omega) (by omega);have hl:∀x∈lx n k d,x.length=k:=fun x hx=>((zBD n d k x (by omega)).1 hx).1
  have es:seqN (n-(d+1)) (k+1)=(n-(d+1)) :: seqN (n-d) k:=by
   show _ :: seqN (n-(d+1)+1) k=_
   rw [show n-(d+1)+1=n-d by omega]
  rw [e] at hl
  by_cases q:k+1≤d
  ·obtain ⟨R2,e2,hR2⟩:=zNG n d (k+1) (by omega) q
   refine ⟨R.map (fun l=>(n-(d+1)) :: l) ++ seqN (n-d) (k+1) :: R2,?_,?_⟩
   ·show (lx n k d).map _ ++ lx n (k+1) d=_
    rw [e,e2,es];rfl
   ·rw [es]
    exact zBH (a:=n-(d+1)) (k:=k) (by omega) (by rw [show n-(d+1)+1=n-d by omega]) hR2 hR hl
  ·have e2:lx n (k+1) d=[]:=by
    rcases hlx:lx n (k+1) d with _ | ⟨x,r⟩
    ·rfl
    ·obtain ⟨h1,h2,h3⟩:=(zBD n d (k+1) x (by omega)).1 (by rw [hlx];simp)
     have hlast:=zjI h2 (b:=n-d) (fun y hy=>(h3 y hy).1) k (by omega);have:=(h3 (x.getD k 0) (by
      rw [List.getD_eq_getElem?_getD,List.getElem?_eq_getElem (show k<x.length by omega)];exact List.getElem_mem _)).2
     omega
   refine ⟨R.map (fun l=>(n-(d+1)) :: l),?_,?_⟩
   ·show (lx n k d).map _ ++ lx n (k+1) d=_
    rw [e,e2,es,List.append_nil];rfl
   ·rw [es]
    exact zAH (a:=n-(d+1)) (k:=k) (by omega) hR hl
theorem zVE {n:Nat}:∀ {q:List Nat},(∀i,i<q.length→n≤q.getD i 0+(q.length-i))→nxt n q=none
 | [],_=>rfl
 | a :: q,h=>by
  rw [zCB (zVE fun i hi=>by
   have:=h (i+1) (by simp;omega);simp at this ⊢;omega),if_neg (by have:=h 0 (by simp);simp at this;omega)]
theorem nxt_at {n i:Nat} {l:List Nat} (hi:i<l.length) (h1:l.getD i 0+(l.length-i)<n) (h2:∀j,i<j→j<l.length→n≤l.getD j 0+(l.length-j)):nxt n l=some (l.take i ++ seqN (l.getD i 0+1) (l.length-i)):=by
 have e:l=l.take i ++ (l.getD i 0 :: l.drop (i+1)):=by
  conv=>lhs;rw [←List.take_append_drop i l]
  congr 1
  rw [List.drop_eq_getElem_cons hi];simp [hi]
 have hn:nxt n (l.getD i 0 :: l.drop (i+1))=some (seqN (l.getD i 0+1) (l.length-i)):=by
  rw [zCB (zVE fun j hj=>by
   rw [List.length_drop] at hj;have:=h2 (i+1+j) (by omega) (by omega);rw [List.length_drop];have e2:(l.drop (i+1)).getD j 0=l.getD (i+1+j) 0:=by simp [List.getD_eq_getElem?_getD,List.getElem?_drop]
   rw [e2];omega),List.length_drop,if_pos (by omega),show l.length-(i+1)+1=l.length-i by omega]
 have:=zHH hn (l.take i);rw [←e] at this;exact this
def mn23 (A:Nat→Nat→Int) (k:Nat) (l:List Nat):Int:=det k fun a b=>A a (l.getD b 0)
def sl23 (f:List Nat→Int):List (List Nat)→Int
 | []=>0
 | l :: L=>f l+sl23 f L
theorem zBG (f:List Nat→Int):∀L M,sl23 f (L ++ M)=sl23 f L+sl23 f M
 | [],M=>by simp [sl23]
 | l :: L,M=>by
  show f l+sl23 f (L ++ M)=f l+sl23 f L+sl23 f M
  rw [zBG f L M];omega
theorem zAG (f:List Nat→Int) (g:List Nat→List Nat):∀L,sl23 f (L.map g)=sl23 (fun l=>f (g l)) L
 | []=>rfl
 | l :: L=>by
  show f (g l)+sl23 f (L.map g)=_
  rw [zAG f g L];rfl
theorem zEE {f g:List Nat→Int}:∀ {L:List (List Nat)},(∀l∈L,f l=g l)→sl23 f L=sl23 g L
 | [],_=>rfl
 | l :: L,h=>by
  show f l+sl23 f L=g l+sl23 g L
  rw [h l (by simp),zEE fun l hl=>h l (by simp [hl])]
theorem zzF (c:Int) (f:List Nat→Int):∀L,sl23 (fun l=>c*f l) L=c*sl23 f L
 | []=>by simp [sl23]
 | l :: L=>by
  show c*f l+sl23 (fun l=>c*f l) L=c*(f l+sl23 f L)
  rw [zzF c f L,Int.mul_add]
theorem zcF (n:Nat) (f:Nat→List Nat→Int):∀L,sl23 (fun l=>su n fun i=>f i l) L=su n fun i=>sl23 (f i) L
 | []=>by
  show 0=su n fun i=>0
  rw [zOC fun _ _=>rfl]
 | l :: L=>by
  show (su n fun i=>f i l)+sl23 (fun l=>su n fun i=>f i l) L=su n fun i=>f i l+sl23 (f i) L
  rw [zcF n f L,zZD]
theorem zdF {f:List Nat→Int}:∀ {L:List (List Nat)},0≤sl23 (fun l=>f l*f l) L
 | []=>Int.le_refl 0
 | l :: L=>Int.add_nonneg (show 0≤f l*f l by rw [←Int.natAbs_mul_self];omega) zdF
theorem zyF {f:List Nat→Int}:∀ {L:List (List Nat)},sl23 (fun l=>f l*f l) L=0→∀l∈L,f l=0
 | [],_,l,hl=>by cases hl
 | x :: L,h,l,hl=>by
  have h1:0≤f x*f x:=by rw [←Int.natAbs_mul_self];omega
  have h2:=zdF (f:=f) (L:=L);have h3:f x*f x+sl23 (fun l=>f l*f l) L=0:=h;have h4:f x*f x=0:=by omega
  rcases List.mem_cons.1 hl with rfl | hl
  ·rcases Int.mul_eq_zero.1 h4 with q | q <;> exact q
  ·exact zyF (by omega) l hl
def bd23 (a c:Nat→Int) (X:Nat→Nat→Int):Nat→Nat→Int
 | 0,0=>1
 | 0,j+1 => - c j
 | i+1,0=>a i
 | i+1,j+1=>X i j
theorem zUF (k:Nat) (a c:Nat→Int) (X:Nat→Nat→Int):∀m,m≤k→det (k+1) (bd23 (fun i=>if i<m then 0 else a i) c fun i j=>if i<m then X i j+a i*c j else X i j)=det (k+1) (bd23 a c X)
 | 0,_=>zEA fun i j _ _=>by cases i <;> cases j <;> simp [bd23]
 | m+1,h=>by
  rw [←zUF k a c X m (by omega)];rw [←(zYA (k+1)).plus (A:=bd23 (fun i=>if i<m then 0 else a i) c fun i j=>if i<m then X i j+a i*c j else X i j) (i:=m+1) (k:=0) (by omega) (by omega) (by omega) (- a m)];refine zEA fun i j _ _=>?_
  unfold stR
  by_cases hi:i=m+1
  ·subst hi
   rw [if_pos rfl];cases j with
   | zero=>simp [bd23];omega
   | succ j =>
    simp only [bd23,show m<m+1 from by omega,if_true,show ¬m<m from by omega,if_false]
    grind
  ·rw [if_neg hi]
   match i,j with
   | 0,0=>rfl
   | 0,j+1=>rfl
   | i+1,0 =>
    show (if i<m+1 then 0 else a i)=if i<m then 0 else a i
    by_cases q:i<m
    ·rw [if_pos q,if_pos (by omega)]
    ·rw [if_neg q,if_neg (by omega)]
   | i+1,j+1 =>
    show (if i<m+1 then X i j+a i*c j else X i j)=if i<m then X i j+a i*c j else X i j
    by_cases q:i<m
    ·rw [if_pos q,if_pos (by omega)]
    ·rw [if_neg q,if_neg (by omega)]
theorem det_one23 (k:Nat) (a c:Nat→Int) (X:Nat→Nat→Int) :
  det (k+1) (fun i j=>X i j+a i*c j)=det (k+1) X+su (k+1) fun i=>su (k+1) fun j=>sgd i*a i*(sgd j*c j)*det k fun r s=>X (skd i r) (skd j s):=by
 have h:=zUF (k+1) a c X (k+1) (Nat.le_refl _);have hl:det (k+1+1) (bd23 (fun i=>if i<k+1 then 0 else a i) c fun i j=>if i<k+1 then X i j+a i*c j else X i j)=det (k+1) fun i j=>X i j+a i*c j:=by
  show su (k+1+1) _=_
  rw [zxA (i:=0) (by omega) fun i hi h0=>by
   obtain ⟨i,rfl⟩:∃i',i=i'+1:=⟨i-1,by omega⟩
   have:bd23 (fun i=>if i<k+1 then 0 else a i) c (fun i j=>if i<k+1 then X i j+a i*c j else X i j) (i+1) 0=0:=if_pos (by omega);rw [this];simp]
  show 1*1*det (k+1) _=_
  rw [Int.one_mul,Int.one_mul];exact zEA fun i j hi hj=>by
   show (if i<k+1 then X i j+a i*c j else X i j)=_
   rw [if_pos hi]
 have hr:det (k+1+1) (bd23 a c X)=det (k+1) X+su (k+1) fun i=>su (k+1) fun j=>sgd i*a i*(sgd j*c j)*det k fun r s=>X (skd i r) (skd j s):=by
  show su (k+1+1) _=_
  have e:∀(n:Nat) (f:Nat→Int),su (n+1) f=f 0+su n fun i=>f (i+1):=by
   intro n f
   induction n with
   | zero=>simp [su]
   | succ n ih =>
    show su (n+1) f+f (n+1)=f 0+(su n (fun i=>f (i+1))+f (n+1))
    rw [ih];omega
  rw [e]
  congr 1
  ·show 1*1*det (k+1) _=_
   rw [Int.one_mul,Int.one_mul];exact zEA fun i j hi hj=>rfl
  ·refine zJA fun i hi=>?_
   show-sgd i*a i*det (k+1) (fun r s=>bd23 a c X (skd (i+1) r) (s+1))=_
   rw [zuD];unfold exd;rw [←zWB];refine zJA fun j hj=>?_
   have e1:bd23 a c X (skd (i+1) 0) (j+1) = - c j:=by
    have:skd (i+1) 0=0:=by unfold skd;rw [if_pos (by omega)]
    rw [this];rfl
   show-sgd i*a i*(sgd j*bd23 a c X (skd (i+1) 0) (j+1)*det k fun r s=>bd23 a c X (skd (i+1) (r+1)) (skd j s+1))=_
   rw [e1];have e2:(det k fun r s=>bd23 a c X (skd (i+1) (r+1)) (skd j s+1))=det k fun r s=>X (skd i r) (skd j s):=zEA fun r s _ _=>by
    have:skd (i+1) (r+1)=skd i r+1:=by unfold skd;grind
    rw [this];rfl
   rw [e2]
   grind
 rw [←hl,h,hr]
theorem zgE (n:Nat):∀d,d≤n→∀(k:Nat) (A C:Nat→Nat→Int),sl23 (fun l=>mn23 A k l*mn23 C k l) (lx n k d)=det k fun i j=>su d fun t=>A i (n-d+t)*C j (n-d+t)
 | d,_,0,A,C=>by
  have e:lx n 0 d=[[]]:=by cases d <;> rfl
  rw [e]
  rfl
 | 0,_,k+1,A,C=>by
  show 0=_
  exact ((zYA (k+1)).nul (i:=0) (by omega) fun j _=>rfl).symm
 | d+1,hd,k+1,A,C=>by
  obtain ⟨t0,ht0⟩:∃t0,n-(d+1)=t0:=⟨_,rfl⟩
  have e1:n-d=t0+1:=by omega
  show sl23 _ ((lx n k d).map (fun l=>(n-(d+1)) :: l) ++ lx n (k+1) d)=_
  rw [zBG,zAG,zgE n d (by omega) (k+1) A C,ht0];have e:∀(n:Nat) (f:Nat→Int),su (n+1) f=f 0+su n fun i=>f (i+1):=by
   intro n f
   induction n with
   | zero=>simp [su]
   | succ n ih =>
    show su (n+1) f+f (n+1)=f 0+(su n (fun i=>f (i+1))+f (n+1))
    rw [ih];omega
  have hR:(det (k+1) fun i j=>su (d+1) fun t=>A i (t0+t)*C j (t0+t))=det (k+1) fun i j=>(su d fun t=>A i (n-d+t)*C j (n-d+t))+A i t0*C j t0:=zEA fun i j _ _=>by
   rw [e,Int.add_comm,e1]
   congr 1
   exact zJA fun t _=>by rw [show t0+(t+1)=t0+1+t from by omega]
  rw [hR,det_one23 k (fun i=>A i t0) (fun j=>C j t0),Int.add_comm]
  congr 1
  have hm:∀(B:Nat→Nat→Int) (l:List Nat),mn23 B (k+1) (t0 :: l)=su (k+1) fun i=>sgd i*B i t0*mn23 (fun r=>B (skd i r)) k l:=fun B l=>zJA fun i _=>by
   show sgd i*B i t0*det k (fun r c=>B (skd i r) ((t0 :: l).getD (c+1) 0))=_
   rfl
  have hs:∀l,mn23 A (k+1) (t0 :: l)*mn23 C (k+1) (t0 :: l)=su (k+1) fun i=>su (k+1) fun j=>sgd i*A i t0*(sgd j*C j t0)*(mn23 (fun r=>A (skd i r)) k l*mn23 (fun r=>C (skd j r)) k l):=fun l=>by
   rw [hm,hm,←zQE];refine zJA fun i _=>?_
   rw [←zWB];exact zJA fun j _=>by grind
  rw [zEE fun l _=>hs l,zcF];refine zJA fun i _=>?_
  rw [zcF];refine zJA fun j _=>?_
  rw [zzF,zgE n d (by omega) k (fun r=>A (skd i r)) (fun r=>C (skd j r))]
def gm23 (n:Nat) (A:Nat→Nat→Int):Nat→Nat→Int:=fun i j=>su n fun t=>A i t*A j t
theorem zJF (n k:Nat) (A:Nat→Nat→Int):det k (gm23 n A)=sl23 (fun l=>mn23 A k l*mn23 A k l) (lx n k n):=by
 rw [zgE n n (Nat.le_refl _) k A A];exact zEA fun i j _ _=>zJA fun t _=>by rw [show n-n+t=t from by omega]
theorem zHE (n k:Nat) (A:Nat→Nat→Int):0≤det k (gm23 n A):=by
 rw [zJF];exact zdF
theorem gram_over23 {n k:Nat} (h:n<k) (A:Nat→Nat→Int):det k (gm23 n A)=0:=by
 have hn:∀d k,d<k→lx n k d=[]:=by
  intro d
  induction d with
  | zero=>intro k h;obtain ⟨k,rfl⟩:∃k',k=k'+1:=⟨k-1,by omega⟩;rfl
  | succ d ih =>
   intro k h;obtain ⟨k,rfl⟩:∃k',k=k'+1:=⟨k-1,by omega⟩
   show (lx n k d).map _ ++ lx n (k+1) d=[]
   rw [ih k (by omega),ih (k+1) (by omega)];rfl
 rw [zJF,hn n k h];rfl
theorem gram_next23 {n k:Nat} {A:Nat→Nat→Int} (h:det k (gm23 n A)=0):det (k+1) (gm23 n A)=0:=by
 rw [zJF] at h;have hz:=zyF h;have hk:k≠0:=by
  rintro rfl;have e:lx n 0 n=[[]]:=by cases n <;> rfl
  have:=hz [] (by rw [e];simp);exact absurd (show (1:Int)=0 from this) (by decide)
 have hd:Dvm 0 A k n k:=fun R M hR hM=>dvd_minors (fun rs cs l1 l2 u1 u2 b1 b2=>by
  have e:∀a,a<k→rs.getD a 0=a:=by
   have hlo:∀a,a<k→a≤rs.getD a 0:=by
    intro a
    induction a with
    | zero=>intro _;omega
    | succ a ih =>
     intro ha;have h1:=ih (by omega);have h2:=List.pairwise_iff_getElem.1 u1 a (a+1) (by omega) (by omega) (by omega);simp [show a<rs.length by omega,show a+1<rs.length by omega] at h1 h2 ⊢;omega
   have hup:∀d,d<k→rs.getD (k-1-d) 0≤k-1-d:=by
    intro d
    induction d with
    | zero =>
     intro _;have h1:=b1 (rs.getD (k-1) 0) (by simp [show k-1<rs.length by omega]);simp only [Nat.sub_zero];omega
    | succ d ih =>
     intro hd;have h1:=ih (by omega);have h2:=List.pairwise_iff_getElem.1 u1 (k-1-(d+1)) (k-1-d) (by omega) (by omega) (by omega);simp [show k-1-d<rs.length by omega,show k-1-(d+1)<rs.length by omega] at h1 h2 ⊢;omega
   intro a ha;have h1:=hlo a ha;have h2:=hup (k-1-a) (by omega);rw [show k-1-(k-1-a)=a from by omega] at h2;omega
  have hl:=hz cs ((zBD n n k cs (Nat.le_refl _)).2 ⟨l2,u2,fun x hx=>⟨by omega,b2 x hx⟩⟩);rw [zEA (B:=fun a b=>A a (cs.getD b 0)) fun a b ha hb=>by rw [e a ha]];rw [show (det k fun a b=>A a (cs.getD b 0))=0 from hl];exact Int.dvd_refl 0) R M hR hM
 rw [zJF];have hall:∀l∈lx n (k+1) n,mn23 A (k+1) l*mn23 A (k+1) l=0:=by
  intro l hl;obtain ⟨l1,l2,l3⟩:=(zBD n n (k+1) l (Nat.le_refl _)).1 hl;have h0:mn23 A (k+1) l=0:=by
   unfold mn23;obtain ⟨X,hX⟩:∃X:Nat→Nat→Int,X=fun a b=>A a (l.getD b 0):=⟨_,rfl⟩
   rw [←hX];have hs:=(zYA (k+1)).swap (A:=X) (i:=0) (k:=k) (by omega) (by omega) (by omega);rw [zuD] at hs;have hz0:exd k (stR (stR X 0 (X k)) k (X 0))=0:=zOC fun j hj=>by
    have h2:=hd (fun r=>if r+1=k then 0 else r+1) (fun b=>l.getD (skd j b) 0) (fun a ha=>by split <;> omega) (fun b hb=>by
     have:skd j b<l.length:=by rw [l1];unfold skd;split <;> omega
     have hm:=(l3 (l.getD (skd j b) 0) (by simp [this])).2;exact hm)
    have h3:(det k fun r c=>stR (stR X 0 (X k)) k (X 0) (r+1) (skd j c))=det k fun a b=>A ((fun r=>if r+1=k then 0 else r+1) a) ((fun b=>l.getD (skd j b) 0) b):=zEA fun r c _ _=>by
     unfold stR;subst hX
     by_cases q:r+1=k
     ·simp [q]
     ·simp [q]
    rw [h3,Int.zero_dvd.1 h2,Int.mul_zero]
   rw [hz0] at hs;omega
  rw [h0];rfl
 have:∀L:List (List Nat),(∀l∈L,mn23 A (k+1) l*mn23 A (k+1) l=0)→sl23 (fun l=>mn23 A (k+1) l*mn23 A (k+1) l) L=0:=by
  intro L
  induction L with
  | nil=>intro _;rfl
  | cons x L ih =>
   intro h
   show mn23 A (k+1) x*mn23 A (k+1) x+sl23 _ L=0
   rw [h x (by simp),ih fun l hl=>h l (by simp [hl])];rfl
 exact this _ hall
end Go.Proofs.YtjnokjgbeploaaaGreat
