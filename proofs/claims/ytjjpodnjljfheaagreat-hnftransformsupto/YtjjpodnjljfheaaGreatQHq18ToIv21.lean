/-
 QHq18ToIv21: Hq18, Iv21, joined.
-/
import Derived.Test.YtjjpodnjljfheaaGreatQTl19ToHs18

set_option maxRecDepth 100000
set_option maxHeartbeats 6400000
set_option linter.unusedVariables false
set_option linter.unusedSimpArgs false
namespace Go.Proofs.YtjjpodnjljfheaaGreat
def lesX (X:Nat→Nat→Int) (i j:Nat) (s:Int):Nat→Nat→Int:=fun t c=>if t=i then X i c-s*X j c else X t c
def mixX (X:Nat→Nat→Int) (i j:Nat) (x y u v:Int):Nat→Nat→Int:=fun t c=>if t=i then x*X i c+y*X j c else if t=j then u*X i c+v*X j c else X t c
def negX (X:Nat→Nat→Int) (i:Nat):Nat→Nat→Int:=fun t c=>if t=i then-X i c else X t c
def swpX (X:Nat→Nat→Int) (i j:Nat):Nat→Nat→Int:=fun t c=>if t=i then X j c else if t=j then X i c else X t c
theorem zDB (X:Nat→Nat→Int) (i j:Nat) (s:Int) (c:Nat):lesX X i j s i c=X i c-s*X j c:=if_pos rfl
theorem zdA {X:Nat→Nat→Int} {i j t:Nat} {s:Int} (h:t≠i):lesX X i j s t=X t:=by funext c;exact if_neg h
theorem zFC (X:Nat→Nat→Int) (i j:Nat) (x y u v:Int) (c:Nat):mixX X i j x y u v i c=x*X i c+y*X j c:=if_pos rfl
theorem zVC {X:Nat→Nat→Int} {i j:Nat} (h:i≠j) (x y u v:Int) (c:Nat):mixX X i j x y u v j c=u*X i c+v*X j c:=by unfold mixX;rw [if_neg (Ne.symm h),if_pos rfl]
theorem zYB {X:Nat→Nat→Int} {i j t:Nat} {x y u v:Int} (h:t≠i) (h':t≠j):mixX X i j x y u v t=X t:=by funext c;unfold mixX;rw [if_neg h,if_neg h']
theorem zDD (X:Nat→Nat→Int) (i c:Nat):negX X i i c = - X i c:=if_pos rfl
theorem zwB {X:Nat→Nat→Int} {i t:Nat} (h:t≠i):negX X i t=X t:=by funext c;exact if_neg h
section
variable {K n i j:Nat} {X:Nat→Nat→Int}
theorem zrG (hi:i<K) (hj:j<K) (hij:i≠j) (s:Int) (v:Nat→Int):Cm19 K n (lesX X i j s) v↔Cm19 K n X v:=by
 constructor
 ·intro h
  refine h.trans fun t ht=>?_
  by_cases q:t=i
  ·subst q
   exact ((Cm19.row X hi).add ((Cm19.row X hj).mul (-s))).congr fun c _=>by rw [zDB];grind
  ·rw [zdA q];exact Cm19.row X ht
 ·intro h
  refine h.trans fun t ht=>?_
  by_cases q:t=i
  ·subst q
   have a:=Cm19.row (n:=n) (lesX X t j s) hi;have b:=Cm19.row (n:=n) (lesX X t j s) hj;exact (a.add (b.mul s)).congr fun c _=>by rw [zDB,zdA (Ne.symm hij)];grind
  ·have:=Cm19.row (n:=n) (lesX X i j s) ht
   rwa [zdA q] at this
theorem cm_mixX (hi:i<K) (hj:j<K) (hij:i≠j) {x y u w:Int} (hd:x*w-y*u=1) (v:Nat→Int):Cm19 K n (mixX X i j x y u w) v↔Cm19 K n X v:=by
 constructor
 ·intro h
  refine h.trans fun t ht=>?_
  by_cases q:t=i
  ·subst q
   exact (((Cm19.row X hi).mul x).add ((Cm19.row X hj).mul y)).congr fun c _=>by rw [zFC]
  ·by_cases q':t=j
   ·subst q'
    exact (((Cm19.row X hi).mul u).add ((Cm19.row X hj).mul w)).congr fun c _=>by rw [zVC hij]
   ·rw [zYB q q'];exact Cm19.row X ht
 ·intro h
  have a:=Cm19.row (n:=n) (mixX X i j x y u w) hi;have b:=Cm19.row (n:=n) (mixX X i j x y u w) hj;refine h.trans fun t ht=>?_
  by_cases q:t=i
  ·subst q
   exact ((a.mul w).add (b.mul (-y))).congr fun c _=>by
    rw [zFC,zVC hij];have:X t c=(x*w-y*u)*X t c:=by rw [hd,Int.one_mul]
    grind
  ·by_cases q':t=j
   ·subst q'
    exact ((a.mul (-u)).add (b.mul x)).congr fun c _=>by
     rw [zFC,zVC hij];have:X t c=(x*w-y*u)*X t c:=by rw [hd,Int.one_mul]
     grind
   ·have:=Cm19.row (n:=n) (mixX X i j x y u w) ht
    rwa [zYB q q'] at this
theorem cm_negX (hi:i<K) (v:Nat→Int):Cm19 K n (negX X i) v↔Cm19 K n X v:=by
 constructor
 ·intro h
  refine h.trans fun t ht=>?_
  by_cases q:t=i
  ·subst q
   exact ((Cm19.row X hi).mul (-1)).congr fun c _=>by rw [zDD];omega
  ·rw [zwB q];exact Cm19.row X ht
 ·intro h
  refine h.trans fun t ht=>?_
  by_cases q:t=i
  ·subst q
   exact ((Cm19.row (n:=n) (negX X t) hi).mul (-1)).congr fun c _=>by rw [zDD];omega
  ·have:=Cm19.row (n:=n) (negX X i) ht
   rwa [zwB q] at this
theorem cm_swpX (hi:i<K) (hj:j<K) (v:Nat→Int):Cm19 K n (swpX X i j) v↔Cm19 K n X v:=by
 have a1:∀ {X:Nat→Nat→Int},swpX X i j i=X j:=by intro X;funext c;exact if_pos rfl
 have a2:∀ {X:Nat→Nat→Int},swpX X i j j=X i:=by
  intro X;funext c;unfold swpX
  by_cases q:j=i
  ·rw [if_pos q,q]
  ·rw [if_neg q,if_pos rfl]
 have a3:∀ {X:Nat→Nat→Int} {t:Nat},t≠i→t≠j→swpX X i j t=X t:=by intro X t h h';funext c;unfold swpX;rw [if_neg h,if_neg h']
 constructor
 ·intro h
  refine h.trans fun t ht=>?_
  by_cases q:t=i
  ·subst q;rw [a1];exact Cm19.row X hj
  ·by_cases q':t=j
   ·subst q';rw [a2];exact Cm19.row X hi
   ·rw [a3 q q'];exact Cm19.row X ht
 ·intro h
  refine h.trans fun t ht=>?_
  by_cases q:t=i
  ·subst q;have:=Cm19.row (n:=n) (swpX X t j) hj;rwa [a2] at this
  ·by_cases q':t=j
   ·subst q';have:=Cm19.row (n:=n) (swpX X i t) hi;rwa [a1] at this
   ·have:=Cm19.row (n:=n) (swpX X i j) ht;rwa [a3 q q'] at this
end
def bd18 (T e:Nat):Nat:=(2*T) ^ e*T
theorem ziC (T e:Nat):bd18 T (e+1)=2*T*bd18 T e:=by unfold bd18;rw [Nat.pow_succ,Nat.mul_assoc,Nat.mul_comm ((2*T) ^ e),Nat.mul_assoc,Nat.mul_comm T ((2*T) ^ e)]
theorem zyE (T:Nat):bd18 T 0=T:=by simp [bd18]
theorem zTB {T e f:Nat} (hT:1≤T) (h:e≤f):bd18 T e≤bd18 T f:=Nat.mul_le_mul_right _ (Nat.pow_le_pow_right (by omega) h)
theorem zXG {T:Nat} (hT:1≤T) (e:Nat):T≤bd18 T e:=by have:=zTB hT (Nat.zero_le e);rwa [zyE] at this
theorem zWI {a s b:Int} {P Q T:Nat} (ha:a.natAbs≤P) (hs:s.natAbs≤P) (hb:b.natAbs≤T) (hT:1≤T) (hQ:Q=2*T*P):(a-s*b).natAbs≤Q:=by
 have h1:(s*b).natAbs≤P*T:=by rw [Int.natAbs_mul];exact Nat.mul_le_mul hs hb
 have h2:P≤P*T:=by have:=Nat.mul_le_mul_left P hT;omega
 have h3:2*T*P=P*T+P*T:=by rw [Nat.mul_assoc,Nat.mul_comm T P];omega
 omega
theorem zVI {x a y b:Int} {P Q T:Nat} (hx:x.natAbs≤P) (ha:a.natAbs≤T) (hy:y.natAbs≤T) (hb:b.natAbs≤P) (hQ:Q=2*T*P):(x*a+y*b).natAbs≤Q:=by
 have h1:(x*a).natAbs≤P*T:=by rw [Int.natAbs_mul];exact Nat.mul_le_mul hx ha
 have h2:(y*b).natAbs≤T*P:=by rw [Int.natAbs_mul];exact Nat.mul_le_mul hy hb
 have h3:2*T*P=P*T+T*P:=by rw [Nat.mul_assoc,Nat.mul_comm P T];omega
 omega
structure Lv18 (n i r:Nat) (ρ γ:Nat→Nat) (X A:Nat→Nat→Int) (c p T:Nat):Prop where
 ec:Ec18 n i r ρ γ X
 zr:∀j,j<c→X i j=0
 pr:p≤r
 pb:∀a,a<p→γ a<c
 pa:∀a,p≤a→a<r→c≤γ a
 lat:∀v,Cm19 (i+1) n X v↔Cm19 (i+1) n A v
 keep:∀t,i<t→X t=A t
 b1:∀a j,a<p→j<n→(X (ρ a) j).natAbs≤bd18 T p
 b2:∀a j,p≤a→a<r→j<n→(X (ρ a) j).natAbs≤T
 b3:∀j,j<n→(X i j).natAbs≤bd18 T p
 one:1≤T
section
variable {n i r c p T:Nat} {ρ γ:Nat→Nat} {X A:Nat→Nat→Int}
theorem Lv18.skip (h:Lv18 n i r ρ γ X A c p T) (h0:X i c=0) (hs:¬(p<r∧γ p=c)):Lv18 n i r ρ γ X A (c+1) p T :=
 ⟨h.ec,fun j hj=>by
  by_cases q:j=c
  ·subst q;exact h0
  ·exact h.zr j (by omega),h.pr,fun a ha=>by have:=h.pb a ha;omega,fun a h1 h2=>by
  have:=h.pa a h1 h2
  by_cases q:γ a=c
  ·by_cases q':a=p
   ·subst q';exact absurd ⟨h2,q⟩ hs
   ·have:=h.ec.up p a (by omega) h2;have:=h.pa p (Nat.le_refl _) (by omega);omega
  ·omega,h.lat,h.keep,h.b1,h.b2,h.b3,h.one⟩
theorem Lv18.skipS (h:Lv18 n i r ρ γ X A c p T) (h0:X i c=0) (hp:p<r) (hc:γ p=c):Lv18 n i r ρ γ X A (c+1) (p+1) T :=
 ⟨h.ec,fun j hj=>by
  by_cases q:j=c
  ·subst q;exact h0
  ·exact h.zr j (by omega),by omega,fun a ha=>by
  by_cases q:a=p
  ·subst q;omega
  ·have:=h.pb a (by omega);omega,fun a h1 h2=>by have:=h.ec.up p a (by omega) h2;omega,h.lat,h.keep,fun a j ha hj=>by
  by_cases q:a=p
  ·subst q;exact Nat.le_trans (h.b2 a j (Nat.le_refl _) hp hj) (zXG h.one _)
  ·exact Nat.le_trans (h.b1 a j (by omega) hj) (zTB h.one (by omega)),fun a j h1=>h.b2 a j (by omega),fun j hj=>Nat.le_trans (h.b3 j hj) (zTB h.one (by omega)),h.one⟩
theorem Lv18.ne (h:Lv18 n i r ρ γ X A c p T) {a:Nat} (ha:a<r):ρ a≠i:=by have:=h.ec.rl a ha;omega
theorem Ec18.keepR {K:Nat} {Y:Nat→Nat→Int} (h:Ec18 n K r ρ γ X) (e:∀t,t<K→Y t=X t):Ec18 n K r ρ γ Y :=
 ⟨h.up,h.cl,h.rl,h.inj,fun a j ha hj=>by rw [e _ (h.rl a ha)];exact h.zero a j ha hj,fun a ha=>by rw [e _ (h.rl a ha)];exact h.pos a ha,fun t ht hn j hj=>by rw [e t ht];exact h.rest t ht hn j hj⟩
theorem Lv18.less (h:Lv18 n i r ρ γ X A c p T) (hp:p<r) (hc:γ p=c) {s:Int} (hs:X i c=s*X (ρ p) c):Lv18 n i r ρ γ (lesX X i (ρ p) s) A (c+1) (p+1) T:=by
 have hri:=h.ec.rl p hp;have hne:=h.ne hp;have hcn:=h.ec.cl p hp;have hp0:=h.ec.pos p hp;rw [hc] at hp0 hcn;have hsa:s.natAbs≤bd18 T p:=by
  have h1:=h.b3 c hcn;rw [hs,Int.natAbs_mul] at h1;have:s.natAbs*1≤s.natAbs*(X (ρ p) c).natAbs:=Nat.mul_le_mul_left _ (by omega);omega
 refine ⟨h.ec.keepR fun t ht=>zdA (by omega),fun j hj=>?_,by omega,fun a ha=>?_,fun a h1 h2=>by have:=h.ec.up p a (by omega) h2;omega,fun v=>(zrG (by omega) (by omega) (Ne.symm hne) s v).trans (h.lat v),fun t ht=>(zdA (by omega)).trans (h.keep t ht),fun a j ha hj=>?_,fun a j h1 h2 hj=>?_,fun j hj=>?_,h.one⟩
 ·rw [zDB]
  by_cases q:j=c
  ·subst q;rw [hs];omega
  ·rw [h.zr j (by omega),h.ec.zero p j hp (by omega)];omega
 ·by_cases q:a=p
  ·subst q;omega
  ·have:=h.pb a (by omega);omega
 ·have hal:a<r:=by omega
  rw [zdA (h.ne hal)]
  by_cases q:a=p
  ·subst q;exact Nat.le_trans (h.b2 a j (Nat.le_refl _) hp hj) (zXG h.one _)
  ·exact Nat.le_trans (h.b1 a j (by omega) hj) (zTB h.one (by omega))
 ·rw [zdA (h.ne h2)];exact h.b2 a j (by omega) h2 hj
 ·rw [zDB]
  exact zWI (h.b3 j hj) hsa (h.b2 p j (Nat.le_refl _) hp hj) h.one (ziC T p)
theorem Lv18.mix (h:Lv18 n i r ρ γ X A c p T) (hp:p<r) (hc:γ p=c) {x y u v:Int} (hd:x*v-y*u=1) (h0:u*X (ρ p) c+v*X i c=0) (h1:0<x*X (ρ p) c+y*X i c)
  (hx:x.natAbs≤bd18 T p) (hu:u.natAbs≤bd18 T p) (hy:y.natAbs≤T) (hv:v.natAbs≤T):Lv18 n i r ρ γ (mixX X (ρ p) i x y u v) A (c+1) (p+1) T:=by
 have hri:=h.ec.rl p hp;have hne:=h.ne hp;have off:∀a,a<r→a≠p→mixX X (ρ p) i x y u v (ρ a)=X (ρ a):=fun a ha q=>zYB (fun e=>q (h.ec.inj a p ha hp e)) (h.ne ha)
 refine ⟨⟨h.ec.up,h.ec.cl,h.ec.rl,h.ec.inj,fun a j ha hj=>?_,fun a ha=>?_,fun t ht hn j hj=>?_⟩,fun j hj=>?_,by omega,fun a ha=>?_,fun a h1 h2=>by have:=h.ec.up p a (by omega) h2;omega,fun w=>(cm_mixX (by omega) (by omega) hne hd w).trans (h.lat w),fun t ht=>(zYB (by omega) (by omega)).trans (h.keep t ht),fun a j ha hj=>?_,fun a j h1 h2 hj=>?_,fun j hj=>?_,h.one⟩
 ·by_cases q:a=p
  ·subst q;rw [zFC,h.ec.zero a j ha hj,h.zr j (by omega)];simp
  ·rw [off a ha q];exact h.ec.zero a j ha hj
 ·by_cases q:a=p
  ·subst q;rw [zFC,hc];exact h1
  ·rw [off a ha q];exact h.ec.pos a ha
 ·rw [zYB (fun e=>hn p hp e.symm) (by omega)];exact h.ec.rest t ht hn j hj
 ·rw [zVC hne]
  by_cases q:j=c
  ·subst q;exact h0
  ·rw [h.zr j (by omega),h.ec.zero p j hp (by omega)];simp
 ·by_cases q:a=p
  ·subst q;omega
  ·have:=h.pb a (by omega);omega
 ·by_cases q:a=p
  ·subst q
   rw [zFC];exact zVI hx (h.b2 a j (Nat.le_refl _) hp hj) hy (h.b3 j hj) (ziC T a)
  ·rw [off a (by omega) q];exact Nat.le_trans (h.b1 a j (by omega) hj) (zTB h.one (by omega))
 ·rw [off a h2 (by omega)];exact h.b2 a j (by omega) h2 hj
 ·rw [zVC hne]
  exact zVI hu (h.b2 p j (Nat.le_refl _) hp hj) hv (h.b3 j hj) (ziC T p)
end
structure Lo18 (n K r:Nat) (ρ γ:Nat→Nat) (X A:Nat→Nat→Int) (T:Nat):Prop where
 ec:Ec18 n K r ρ γ X
 lat:∀v,Cm19 K n X v↔Cm19 K n A v
 keep:∀t,K≤t→X t=A t
 bd:∀t j,t<K→j<n→(X t j).natAbs≤bd18 T 64
def insF (p x:Nat) (f:Nat→Nat):Nat→Nat:=fun a=>if a<p then f a else if a=p then x else f (a-1)
theorem zlE {p x a:Nat} {f:Nat→Nat} (h:a<p):insF p x f a=f a:=if_pos h
theorem znE (p x:Nat) (f:Nat→Nat):insF p x f p=x:=by unfold insF;rw [if_neg (by omega),if_pos rfl]
theorem zmE {p x a:Nat} {f:Nat→Nat} (h:p<a):insF p x f a=f (a-1):=by unfold insF;rw [if_neg (by omega),if_neg (by omega)]
section
variable {n i r c p T:Nat} {ρ γ:Nat→Nat} {X A:Nat→Nat→Int}
theorem Lv18.neg (h:Lv18 n i r ρ γ X A c p T):Lv18 n i r ρ γ (negX X i) A c p T :=
 ⟨h.ec.keepR fun t ht=>zwB (by omega),fun j hj=>by rw [zDD,h.zr j hj];rfl,h.pr,h.pb,h.pa,fun v=>(cm_negX (by omega) v).trans (h.lat v),fun t ht=>(zwB (by omega)).trans (h.keep t ht),fun a j ha hj=>by
  rw [zwB (h.ne (by have:=h.pr;omega))];exact h.b1 a j ha hj,fun a j h1 h2 hj=>by rw [zwB (h.ne h2)];exact h.b2 a j h1 h2 hj,fun j hj=>by rw [zDD,Int.natAbs_neg];exact h.b3 j hj,h.one⟩
end
theorem Ec18.less {n K r a b:Nat} {ρ γ:Nat→Nat} {X:Nat→Nat→Int} (h:Ec18 n K r ρ γ X) (hab:a<b) (hb:b<r) (s:Int):Ec18 n K r ρ γ (lesX X (ρ a) (ρ b) s):=by
 have hg:=h.up a b hab hb;have off:∀d,d<r→d≠a→lesX X (ρ a) (ρ b) s (ρ d)=X (ρ d):=fun d hd q=>zdA fun e=>q (h.inj d a hd (by omega) e)
 refine ⟨h.up,h.cl,h.rl,h.inj,fun d j hd hj=>?_,fun d hd=>?_,fun t ht hn j hj=>by rw [zdA fun e=>hn a (by omega) e.symm];exact h.rest t ht hn j hj⟩
 ·by_cases q:d=a
  ·subst q;rw [zDB,h.zero d j hd hj,h.zero b j hb (by omega)];omega
  ·rw [off d hd q];exact h.zero d j hd hj
 ·by_cases q:d=a
  ·subst q;rw [zDB,h.zero b _ hb hg];have:=h.pos d hd;omega
  ·rw [off d hd q];exact h.pos d hd
def Pr18 (a b r:Nat) (ρ γ:Nat→Nat) (X:Nat→Nat→Int):Prop:=Rd18 (a+1) r ρ γ X∧∀d,a<d→d<b→0≤X (ρ a) (γ d)∧X (ρ a) (γ d)<X (ρ d) (γ d)
theorem Pr18.step {n K r a b:Nat} {ρ γ:Nat→Nat} {X:Nat→Nat→Int} (h:Ec18 n K r ρ γ X) (hp:Pr18 a b r ρ γ X) (hab:a<b) (hb:b<r):Pr18 a (b+1) r ρ γ (lesX X (ρ a) (ρ b) (X (ρ a) (γ b) / X (ρ b) (γ b))):=by
 have off:∀(s:Int) d,d<r→d≠a→lesX X (ρ a) (ρ b) s (ρ d)=X (ρ d):=fun s d hd q=>zdA fun e=>q (h.inj d a hd (by omega) e)
 refine ⟨fun d e h1 h2 h3=>by rw [off _ d (by omega) (by omega),off _ e h3 (by omega)];exact hp.1 d e h1 h2 h3,fun d h1 h2=>?_⟩;rw [off _ d (by omega) (by omega),zDB]
 by_cases q:d=b
 ·subst q
  have p0:=h.pos d hb;have e1:=Int.emod_nonneg (X (ρ a) (γ d)) (show X (ρ d) (γ d)≠0 by omega);have e2:=Int.emod_lt_of_pos (X (ρ a) (γ d)) p0;have e3:=Int.mul_ediv_add_emod (X (ρ a) (γ d)) (X (ρ d) (γ d));rw [Int.mul_comm] at e3;omega
 ·rw [h.zero b _ hb (h.up d b (by omega) hb)]
  have:=hp.2 d h1 (by omega);omega
theorem Pr18.stay {r a b:Nat} {ρ γ:Nat→Nat} {X:Nat→Nat→Int} (hp:Pr18 a b r ρ γ X) (h:0≤X (ρ a) (γ b)∧X (ρ a) (γ b)<X (ρ b) (γ b)):Pr18 a (b+1) r ρ γ X:=⟨hp.1,fun d h1 h2=>by
 by_cases q:d=b
 ·subst q;exact h
 ·exact hp.2 d h1 (by omega)⟩
theorem Pr18.last {r a:Nat} {ρ γ:Nat→Nat} {X:Nat→Nat→Int} (hp:Pr18 a r r ρ γ X):Rd18 a r ρ γ X:=fun d e h1 h2 h3=>by
 by_cases q:d=a
 ·subst q;exact hp.2 e h2 h3
 ·exact hp.1 d e (by omega) h2 h3
theorem zEJ {n K r:Nat} {ρ γ:Nat→Nat} {A:Nat→Nat→Int}:∀k,k≤r→∀X,Ec18 n K r ρ γ X→Rd18 k r ρ γ X→(∀v,Cm19 K n X v↔Cm19 K n A v) →
  ∃Y,Ec18 n K r ρ γ Y∧Rd18 0 r ρ γ Y∧(∀v,Cm19 K n Y v↔Cm19 K n A v)∧∀a,k≤a→a<r→Y (ρ a)=X (ρ a)
 | 0,_,X,h,hd,e=>⟨X,h,hd,e,fun a _ _=>rfl⟩
 | k+1,hk,X,h,hd,e=>by
  have row:∀d b,b+d=r→k<b→∀X,Ec18 n K r ρ γ X→Pr18 k b r ρ γ X→(∀v,Cm19 K n X v↔Cm19 K n A v)→∃Y,Ec18 n K r ρ γ Y∧Rd18 k r ρ γ Y∧(∀v,Cm19 K n Y v↔Cm19 K n A v)∧∀a,k+1≤a→a<r→Y (ρ a)=X (ρ a):=by
   intro d
   induction d with
   | zero =>
    intro b hb _ X h hp e;obtain rfl:b=r:=by omega
    exact ⟨X,h,hp.last,e,fun _ _ _=>rfl⟩
   | succ d ih =>
    intro b hb hkb X h hp e;obtain ⟨Y,y1,y2,y3,y4⟩:=ih (b+1) (by omega) (by omega) _ (h.less hkb (by omega) _) (Pr18.step h hp hkb (by omega)) (fun v=>(zrG (h.rl k (by omega)) (h.rl b (by omega)) (fun q=>by have:=h.inj k b (by omega) (by omega) q;omega) _ v).trans (e v));exact ⟨Y,y1,y2,y3,fun a h1 h2=>(y4 a h1 h2).trans (zdA fun q=>by have:=h.inj a k h2 (by omega) q;omega)⟩
  obtain ⟨Y,y1,y2,y3,y4⟩:=row (r-(k+1)) (k+1) (by omega) (by omega) X h ⟨hd,fun d h1 h2=>by omega⟩ e;obtain ⟨Z,z1,z2,z3,z4⟩:=zEJ k (by omega) Y y1 y2 y3;exact ⟨Z,z1,z2,z3,fun a h1 h2=>(z4 a (by omega) h2).trans (y4 a h1 h2)⟩
structure Lw18 (m n K r:Nat) (ρ γ:Nat→Nat) (X A:Nat→Nat→Int) (T a b:Nat):Prop where
 ec:Ec18 n K r ρ γ X
 lat:∀v,Cm19 K n X v↔Cm19 K n A v
 keep:∀t,K≤t→X t=A t
 pr:Pr18 a b r ρ γ X
 b1:∀d j,d<a→d<r→j<n→(X (ρ d) j).natAbs≤bd18 T 64
 b2:∀j,a<r→j<n→(X (ρ a) j).natAbs≤bd18 T (64+(b-(a+1)))
 b3:∀d j,a<d→d<r→j<n→(X (ρ d) j).natAbs≤T
section
variable {m n K r T a b:Nat} {ρ γ:Nat→Nat} {X A:Nat→Nat→Int}
theorem Lo18.start (h:Lo18 n K r ρ γ X A T):Lw18 m n K r ρ γ X A T r (r+1) :=
 ⟨h.ec,h.lat,h.keep,⟨fun d e h1 h2 h3=>by omega,fun d h1 h2=>by omega⟩,fun d j _ hd hj=>h.bd _ j (h.ec.rl d hd) hj,fun j h1=>by omega,fun d j h1 h2=>by omega⟩
theorem Lw18.small (h:Lw18 m n K r ρ γ X A T a b) (hT:Tb18 m n A T) (hK:K≤m) {k:Nat} (hk:k≤r) (hd:Rd18 k r ρ γ X):∀d j,k≤d→d<r→j<n→(X (ρ d) j).natAbs≤T:=fun d j h1 h2 hj=>by
 obtain ⟨Y,y1,y2,y3,y4⟩:=zEJ k hk X h.ec hd h.lat;rw [←y4 d h1 h2];exact hT.all K r ρ γ Y hK y1 y2 y3 _ j (h.ec.rl d h2) hj
theorem Lw18.next (h:Lw18 m n K r ρ γ X A T (a+1) b) (hb:a+1<r→r≤b) (ha:a<r) (hT:Tb18 m n A T) (hK:K≤m):Lw18 m n K r ρ γ X A T a (a+1):=by
 have hd:Rd18 (a+1) r ρ γ X:=fun d e h1 h2 h3=>by
  by_cases q:d=a+1
  ·subst q;exact h.pr.2 e h2 (by have:=hb (by omega);omega)
  ·exact h.pr.1 d e (by omega) h2 h3
 refine ⟨h.ec,h.lat,h.keep,⟨hd,fun d h1 h2=>by omega⟩,fun d j h1 h2 hj=>h.b1 d j (by omega) h2 hj,fun j _ hj=>?_,fun d j h1 h2 hj=>h.small hT hK (by omega) hd d j (by omega) h2 hj⟩;exact Nat.le_trans (h.b1 a j (by omega) ha hj) (zTB hT.one (by omega))
theorem Lw18.stay (h:Lw18 m n K r ρ γ X A T a b) (hab:a<b) (hT:Tb18 m n A T) (hq:0≤X (ρ a) (γ b)∧X (ρ a) (γ b)<X (ρ b) (γ b)):Lw18 m n K r ρ γ X A T a (b+1) :=
 ⟨h.ec,h.lat,h.keep,h.pr.stay hq,h.b1,fun j ha hj=>Nat.le_trans (h.b2 j ha hj) (zTB hT.one (by omega)),h.b3⟩
theorem zTG (x:Int) {y:Int} (hy:0<y):(x / y).natAbs≤x.natAbs:=Int.natAbs_ediv_le_natAbs x y
theorem Lw18.step (h:Lw18 m n K r ρ γ X A T a b) (hab:a<b) (hb:b<r) (hT:Tb18 m n A T):Lw18 m n K r ρ γ (lesX X (ρ a) (ρ b) (X (ρ a) (γ b) / X (ρ b) (γ b))) A T a (b+1):=by
 have off:∀(s:Int) d,d<r→d≠a→lesX X (ρ a) (ρ b) s (ρ d)=X (ρ d):=fun s d hd q=>zdA fun e=>q (h.ec.inj d a hd (by omega) e)
 have hra:=h.ec.rl a (by omega);have hrb:=h.ec.rl b hb;refine ⟨h.ec.less hab hb _,fun v=>(zrG hra hrb (fun q=>by have:=h.ec.inj a b (by omega) hb q;omega) _ v).trans (h.lat v),fun t ht=>(zdA (by omega)).trans (h.keep t ht),Pr18.step h.ec h.pr hab hb,fun d j h1 h2 hj=>by rw [off _ d h2 (by omega)];exact h.b1 d j h1 h2 hj,fun j ha hj=>?_,fun d j h1 h2 hj=>by rw [off _ d h2 (by omega)];exact h.b3 d j h1 h2 hj⟩;rw [zDB];refine zWI (h.b2 j ha hj) (Nat.le_trans (zTG _ (h.ec.pos b hb)) (h.b2 _ ha (h.ec.cl b hb))) (h.b3 b j hab hb hj) hT.one ?_;rw [show 64+(b+1-(a+1))=(64+(b-(a+1)))+1 by omega,ziC]
theorem Lw18.any (h:Lw18 m n K r ρ γ X A T a b) (hT:Tb18 m n A T) (hb:b≤a+65):∀t j,t<K→j<n→(X t j).natAbs≤bd18 T 128:=fun t j ht hj=>by
 by_cases q':∃d,d<r∧ρ d=t
 ·obtain ⟨d,hd,rfl⟩:=q'
  rcases Nat.lt_trichotomy d a with q | q | q
  ·exact Nat.le_trans (h.b1 d j q hd hj) (zTB hT.one (by omega))
  ·subst q;exact Nat.le_trans (h.b2 j hd hj) (zTB hT.one (by omega))
  ·exact Nat.le_trans (h.b3 d j q hd hj) (zXG hT.one _)
 ·rw [h.ec.rest t ht (fun d hd e=>q' ⟨d,hd,e⟩) j hj];simp
end
structure Hb18 (m n K r:Nat) (ρ γ:Nat→Nat) (X A:Nat→Nat→Int):Prop where
 ec:Ec18 n K r ρ γ X
 rd:Rd18 0 r ρ γ X
 lat:∀v,Cm19 K n X v↔Cm19 K n A v
 keep:∀t,K≤t→X t=A t
section
variable {m n K r T:Nat} {ρ γ:Nat→Nat} {X A:Nat→Nat→Int}
theorem Lw18.end_ {b:Nat} (h:Lw18 m n K r ρ γ X A T 0 b) (hb:0<r→r≤b):Hb18 m n K r ρ γ X A :=
 ⟨h.ec,fun d e h1 h2 h3=>by
  by_cases q:d=0
  ·subst q;exact h.pr.2 e h2 (by have:=hb (by omega);omega)
  ·exact h.pr.1 d e (by omega) h2 h3,h.lat,h.keep⟩
theorem Hb18.first (m n:Nat) (ρ γ:Nat→Nat) (A:Nat→Nat→Int):Hb18 m n 0 0 ρ γ A A :=
 ⟨⟨fun a b _ h=>by omega,fun a h=>by omega,fun a h=>by omega,fun a b h=>by omega,fun a j h=>by omega,fun a h=>by omega,fun t h=>by omega⟩,fun a b _ _ h=>by omega,fun v=>Iff.rfl,fun t _=>rfl⟩
theorem Hb18.size (h:Hb18 m n K r ρ γ X A) (hT:Tb18 m n A T) (hK:K≤m):∀t j,t<m→j<n→(X t j).natAbs≤T:=fun t j ht hj=>by
 by_cases q:t<K
 ·exact hT.all K r ρ γ X hK h.ec h.rd h.lat t j q hj
 ·rw [h.keep t (by omega)];exact hT.own t j ht hj
theorem Hb18.open_ (h:Hb18 m n K r ρ γ X A) (hT:Tb18 m n A T) (hK:K<m):Lv18 n K r ρ γ X A 0 0 T:=by
 have sz:=h.size hT (by omega);refine ⟨h.ec,fun j hj=>by omega,Nat.zero_le _,fun a ha=>by omega,fun a _ _=>Nat.zero_le _,fun v=>?_,fun t ht=>h.keep t (by omega),fun a j ha=>by omega,fun a j _ ha hj=>sz _ j (by have:=h.ec.rl a ha;omega) hj,fun j hj=>by rw [zyE];exact sz K j hK hj,hT.one⟩;have go:∀ {Y Z:Nat→Nat→Int},(∀v,Cm19 K n Y v↔Cm19 K n Z v)→Y K=Z K→Cm19 (K+1) n Y v→Cm19 (K+1) n Z v:=fun {Y Z} e ek k=>k.trans fun t ht=>by
  by_cases q:t=K
  ·subst q;rw [ek];exact Cm19.row Z (by omega)
  ·exact ((e _).1 (Cm19.row Y (by omega))).more _ (by omega)
 have ek:=h.keep K (Nat.le_refl _);exact ⟨go h.lat ek,go (fun v=>(h.lat v).symm) ek.symm⟩
end
def ordR (ρ:Nat→Nat) (k:Nat):Nat→Nat:=fun l=>if l=k then k else if ρ l=k then ρ k else ρ l
theorem Hb18.swap {m n r k:Nat} {ρ γ:Nat→Nat} {X A:Nat→Nat→Int} (h:Hb18 m n m r ρ γ X A) (hk:k<r) (hkm:k<m) (h0:∀a,a<k→ρ a=a):Hb18 m n m r (ordR ρ k) γ (swpX X (ρ k) k) A∧∀a,a<k+1→ordR ρ k a=a:=by
 have hrk:=h.ec.rl k hk;have key:∀a,a<r→swpX X (ρ k) k (ordR ρ k a)=X (ρ a):=fun a ha=>by
  funext c
  unfold swpX ordR
  by_cases q:a=k
  ·subst q
   rw [if_pos rfl]
   by_cases q2:a=ρ a
   ·rw [if_pos q2,←q2]
   ·rw [if_neg q2,if_pos rfl]
  ·rw [if_neg q]
   by_cases q2:ρ a=k
   ·rw [if_pos q2,if_pos rfl,q2]
   ·rw [if_neg q2,if_neg (fun e=>q (h.ec.inj a k ha hk e)),if_neg q2]
 have lt:∀a,a<r→ordR ρ k a<m:=fun a ha=>by
  unfold ordR
  split
  ·exact hkm
  ·split
   ·exact hrk
   ·exact h.ec.rl a ha
 have inj:∀a b,a<r→b<r→ordR ρ k a=ordR ρ k b→a=b:=fun a b ha hb e=>by
  have ij:=fun x y hx hy=>h.ec.inj x y hx hy
  unfold ordR at e
  by_cases qa:a=k <;> by_cases qb:b=k
  ·omega
  ·rw [if_pos qa,if_neg qb] at e
   by_cases q2:ρ b=k
   ·rw [if_pos q2] at e;exact absurd (ij b k hb hk (by omega)) qb
   ·rw [if_neg q2] at e;omega
  ·rw [if_neg qa,if_pos qb] at e
   by_cases q2:ρ a=k
   ·rw [if_pos q2] at e;exact absurd (ij a k ha hk (by omega)) qa
   ·rw [if_neg q2] at e;omega
  ·rw [if_neg qa,if_neg qb] at e
   by_cases q1:ρ a=k <;> by_cases q2:ρ b=k
   ·exact ij a b ha hb (by omega)
   ·rw [if_pos q1,if_neg q2] at e;exact absurd (ij b k hb hk e.symm) qb
   ·rw [if_neg q1,if_pos q2] at e;exact absurd (ij a k ha hk e) qa
   ·rw [if_neg q1,if_neg q2] at e;exact ij a b ha hb e
 refine ⟨⟨⟨h.ec.up,h.ec.cl,lt,inj,fun a j ha hj=>by rw [key a ha];exact h.ec.zero a j ha hj,fun a ha=>by rw [key a ha];exact h.ec.pos a ha,fun t ht hn j hj=>?_⟩,fun a b h1 h2 h3=>by rw [key a (by omega),key b h3];exact h.rd a b h1 h2 h3,fun v=>(cm_swpX hrk hkm v).trans (h.lat v),fun t ht=>?_⟩,fun a ha=>?_⟩
 ·have q1:t≠k:=fun e=>hn k hk (by unfold ordR;rw [if_pos rfl];exact e.symm)
  by_cases q2:t=ρ k
  ·show (if t=ρ k then X k j else _)=0
   rw [if_pos q2]
   by_cases q3:∃a,a<r∧ρ a=k
   ·obtain ⟨a,ha,e⟩:=q3
    by_cases q4:a=k
    ·subst q4;exact absurd (q2.trans e) q1
    ·exact absurd (by unfold ordR;rw [if_neg q4,if_pos e];exact q2.symm) (hn a ha)
   ·exact h.ec.rest k hkm (fun a ha e=>q3 ⟨a,ha,e⟩) j hj
  ·show (if t=ρ k then X k j else if t=k then X (ρ k) j else X t j)=0
   rw [if_neg q2,if_neg q1];refine h.ec.rest t ht (fun a ha e=>?_) j hj
   by_cases q4:a=k
   ·subst q4;exact q2 e.symm
   ·exact hn a ha (by unfold ordR;rw [if_neg q4,if_neg (by omega)];exact e)
 ·funext c
  show (if t=ρ k then X k c else if t=k then X (ρ k) c else X t c)=A t c
  rw [if_neg (by omega),if_neg (by omega),h.keep t ht]
 ·unfold ordR
  by_cases q:a=k
  ·rw [if_pos q];exact q.symm
  ·rw [if_neg q,h0 a (by omega),if_neg q]
theorem Hb18.fin {m n r:Nat} {ρ γ:Nat→Nat} {X A:Nat→Nat→Int} (h:Hb18 m n m r ρ γ X A) (h0:∀a,a<r→ρ a=a):Hb18 m n m r id γ X A :=
 ⟨⟨h.ec.up,h.ec.cl,fun a ha=>by have:=h.ec.rl a ha;rwa [h0 a ha] at this,fun a b _ _ e=>e,fun a j ha hj=>by have:=h.ec.zero a j ha hj;rwa [h0 a ha] at this,fun a ha=>by have:=h.ec.pos a ha;rwa [h0 a ha] at this,fun t ht hn j hj=>h.ec.rest t ht (fun a ha=>by rw [h0 a ha];exact hn a ha) j hj⟩,fun a b h1 h2 h3=>by have:=h.rd a b h1 h2 h3;rwa [h0 a (by omega),h0 b h3] at this,h.lat,h.keep⟩
def Iv21 (m n:Nat) (X V:Nat→Nat→Int):Prop:=∀i j,i<m→j<m→su m (fun k=>X i (n+k)*V j k)=dlz i j
theorem dot21 (m:Nat) (x y x' y':Int) (F G P Q:Nat→Int):su m (fun k=>(x*F k+y*G k)*(x'*P k+y'*Q k))=x*x'*su m (fun k=>F k*P k)+x*y'*su m (fun k=>F k*Q k)+y*x'*su m (fun k=>G k*P k)+y*y'*su m (fun k=>G k*Q k):=by
 rw [←zvA,←zvA,←zvA,←zvA,←zQD,←zQD,←zQD];exact zJA fun k _=>by grind
section
variable {m n i j:Nat} {X X' V V':Nat→Nat→Int}
theorem Iv21.dot (h:Iv21 m n X V) {a b i j p q:Nat} {x y x' y':Int} (hX:∀k,k<m→X' a (n+k)=x*X i (n+k)+y*X j (n+k)) (hV:∀k,k<m→V' b k=x'*V p k+y'*V q k) (hi:i<m) (hj:j<m) (hp:p<m) (hq:q<m) :
  su m (fun k=>X' a (n+k)*V' b k)=x*x'*dlz i p+x*y'*dlz i q+y*x'*dlz j p+y*y'*dlz j q:=by
 rw [zJA fun k hk=>by rw [hX k hk,hV k hk],dot21 m x y x' y' (fun k=>X i (n+k)) (fun k=>X j (n+k)) (V p) (V q),h i p hi hp,h i q hi hq,h j p hj hp,h j q hj hq]
theorem Iv21.two (h:Iv21 m n X V) (hi:i<m) (hj:j<m) (hij:i≠j) {x y u v x' y' u' v':Int}
  (hXi:∀k,k<m→X' i (n+k)=x*X i (n+k)+y*X j (n+k)) (hXj:∀k,k<m→X' j (n+k)=u*X i (n+k)+v*X j (n+k)) (hX:∀t,t≠i→t≠j→X' t=X t)
  (hVi:∀k,k<m→V' i k=x'*V i k+y'*V j k) (hVj:∀k,k<m→V' j k=u'*V i k+v'*V j k) (hV:∀t,t≠i→t≠j→V' t=V t)
  (h11:x*x'+y*y'=1) (h12:x*u'+y*v'=0) (h21:u*x'+v*y'=0) (h22:u*u'+v*v'=1):Iv21 m n X' V':=by
 have hji:¬j=i:=fun e=>hij e.symm
 have dii:∀t,dlz t t=1:=fun t=>if_pos rfl
 have dne:∀ {s t},s≠t→dlz s t=0:=fun e=>if_neg e
 have oX:∀t,t≠i→t≠j→∀k,k<m→X' t (n+k)=1*X t (n+k)+0*X t (n+k):=fun t h1 h2 k _=>by rw [hX t h1 h2];omega
 have oV:∀t,t≠i→t≠j→∀k,k<m→V' t k=1*V t k+0*V t k:=fun t h1 h2 k _=>by rw [hV t h1 h2];omega
 intro a b ha hb
 by_cases a1:a=i
 ·subst a1
  by_cases b1:b=a
  ·subst b1;rw [h.dot hXi hVi hi hj hi hj,dii,dii,dne hij,dne hji];omega
  ·by_cases b2:b=j
   ·subst b2;rw [h.dot hXi hVj hi hj hi hj,dii,dii,dne hij,dne hji];omega
   ·rw [h.dot hXi (oV b b1 b2) hi hj hb hb,dne (Ne.symm b1),dne (Ne.symm b2)];omega
 ·by_cases a2:a=j
  ·subst a2
   by_cases b1:b=i
   ·subst b1;rw [h.dot hXj hVi hi hj hi hj,dii,dii,dne hij,dne hji];omega
   ·by_cases b2:b=a
    ·subst b2;rw [h.dot hXj hVj hi hj hi hj,dii,dii,dne hij,dne hji];omega
    ·rw [h.dot hXj (oV b b1 b2) hi hj hb hb,dne (Ne.symm b1),dne (Ne.symm b2)];omega
  ·by_cases b1:b=i
   ·subst b1;rw [h.dot (oX a a1 a2) hVi ha ha hi hj,dne a1,dne a2];omega
   ·by_cases b2:b=j
    ·subst b2;rw [h.dot (oX a a1 a2) hVj ha ha hi hj,dne a1,dne a2];omega
    ·rw [hX a a1 a2,hV b b1 b2];exact h a b ha hb
theorem Iv21.les (h:Iv21 m n X V) (hi:i<m) (hj:j<m) (hij:i≠j) (s:Int):Iv21 m n (lesX X i j s) (lesX V j i (-s)):=by
 refine h.two hi hj hij (x:=1) (y := -s) (u:=0) (v:=1) (x':=1) (y':=0) (u':=s) (v':=1) (fun k _=>by rw [zDB];grind) (fun k _=>by rw [zdA (Ne.symm hij)];omega) (fun t h1 h2=>zdA h1) (fun k _=>by rw [zdA hij];omega) (fun k _=>by rw [zDB];grind) (fun t h1 h2=>zdA h2) (by omega) (by omega) (by omega) (by omega)
theorem Iv21.mix (h:Iv21 m n X V) (hi:i<m) (hj:j<m) (hij:i≠j) {x y u v:Int} (hd:x*v-y*u=1):Iv21 m n (mixX X i j x y u v) (mixX V i j v (-u) (-y) x):=by
 refine h.two hi hj hij (x:=x) (y:=y) (u:=u) (v:=v) (x':=v) (y' := -u) (u' := -y) (v':=x) (fun k _=>by rw [zFC]) (fun k _=>by rw [zVC hij]) (fun t h1 h2=>zYB h1 h2) (fun k _=>by rw [zFC]) (fun k _=>by rw [zVC hij]) (fun t h1 h2=>zYB h1 h2) (by grind) (by grind) (by grind) (by grind)
theorem Iv21.swp (h:Iv21 m n X V) (hi:i<m) (hj:j<m) (hij:i≠j):Iv21 m n (swpX X i j) (swpX V i j):=by
 have e1:∀Y:Nat→Nat→Int,swpX Y i j i=Y j:=fun Y=>by funext c;exact if_pos rfl
 have e2:∀Y:Nat→Nat→Int,swpX Y i j j=Y i:=fun Y=>by funext c;unfold swpX;rw [if_neg (Ne.symm hij),if_pos rfl]
 have e3:∀(Y:Nat→Nat→Int) t,t≠i→t≠j→swpX Y i j t=Y t:=fun Y t h1 h2=>by funext c;unfold swpX;rw [if_neg h1,if_neg h2]
 exact h.two hi hj hij (x:=0) (y:=1) (u:=1) (v:=0) (x':=0) (y':=1) (u':=1) (v':=0) (fun k _=>by rw [e1];omega) (fun k _=>by rw [e2];omega) (fun t h1 h2=>e3 X t h1 h2) (fun k _=>by rw [e1];omega) (fun k _=>by rw [e2];omega) (fun t h1 h2=>e3 V t h1 h2) (by omega) (by omega) (by omega) (by omega)
theorem Iv21.neg (h:Iv21 m n X V) (i:Nat):Iv21 m n (negX X i) (negX V i):=fun a b ha hb=>by
 have hN:∀(Y:Nat→Nat→Int) a (c:Nat),negX Y i a c=(if a=i then -1 else 1)*Y a c:=fun Y a c=>by
  unfold negX
  by_cases q:a=i
  ·subst q;rw [if_pos rfl,if_pos rfl];omega
  ·rw [if_neg q,if_neg q];omega
 rw [zJA (g:=fun k=>((if a=i then -1 else 1)*(if b=i then -1 else 1))*(X a (n+k)*V b k)) fun k _=>by rw [hN,hN];grind,zvA,h a b ha hb]
 by_cases q:a=b
 ·subst q;split <;> simp
 ·rw [show dlz a b=0 from if_neg q,Int.mul_zero]
theorem Iv21.congr (h:Iv21 m n X V) (e1:∀i k,i<m→k<m→X i (n+k)=X' i (n+k)) (e2:∀i k,i<m→k<m→V i k=V' i k):Iv21 m n X' V':=fun a b ha hb=>by
 rw [←h a b ha hb];exact zJA fun k hk=>by rw [e1 a k ha hk,e2 b k hb hk]
theorem Iv21.unit (hX:∀i k,i<m→k<m→X i (n+k)=dlz i k) (hV:∀i k,i<m→k<m→V i k=dlz i k):Iv21 m n X V:=fun a b ha hb=>by
 have sy:∀k,dlz b k=dlz k b:=fun k=>by
  unfold dlz
  by_cases q:b=k
  ·subst q;rfl
  ·rw [if_neg q,if_neg (Ne.symm q)]
 rw [zJA (g:=fun k=>dlz a k*dlz k b) fun k hk=>by rw [hX a k ha hk,hV b k hb hk,sy]];exact zAG hb (dlz a)
theorem Iv21.adz (h:Iv21 m n X V) (hi:i<m) (hj:j<m):det m (fun a b=>X a (n+b))*V j i=Proofs.YtjjpodnjljfheaaGreat.adz m (fun a b=>X a (n+b)) i j:=by
 have e1:=zAG hj (fun a=>Proofs.YtjjpodnjljfheaaGreat.adz m (fun a b=>X a (n+b)) i a);rw [←e1,zJA (g:=fun a=>su m fun k=>Proofs.YtjjpodnjljfheaaGreat.adz m (fun a b=>X a (n+b)) i a*(X a (n+k)*V j k)) fun a ha=>by rw [zvA,h a j ha hj],zBD];rw [zJA (g:=fun k=>(if i=k then det m (fun a b=>X a (n+b)) else 0)*V j k) fun k hk=>by
  rw [zJA (g:=fun a=>Proofs.YtjjpodnjljfheaaGreat.adz m (fun a b=>X a (n+b)) i a*X a (n+k)*V j k) fun a _=>by grind,zjD,zfF (fun a b=>X a (n+b)) hi hk]]
 rw [zCC hi fun k _ hk=>by rw [if_neg (Ne.symm hk),Int.zero_mul],if_pos rfl]
theorem Iv21.det (h:Iv21 m n X V):(Proofs.YtjjpodnjljfheaaGreat.det m (fun a b=>X a (n+b))).natAbs=1:=by
 have e:=zOI m (fun a b=>X a (n+b)) (fun a b=>V b a);rw [zRA (A:=muz m (fun a b=>X a (n+b)) fun a b=>V b a) (B:=dlz) fun a b ha hb=>h a b ha hb,zdD] at e;have e2:=congrArg Int.natAbs e;rw [Int.natAbs_mul] at e2;exact Nat.eq_one_of_mul_eq_one_right e2.symm
theorem Iv21.size (h:Iv21 m n X V) (hm:m≤64) {Y:Nat} (hY:1≤Y) (hX:∀i k,i<m→k<m→(X i (n+k)).natAbs≤Y):∀j i,j<m→i<m→(V j i).natAbs≤64*(64*Y) ^ 64:=fun j i hj hi=>by
 have e:=congrArg Int.natAbs (h.adz hi hj);rw [Int.natAbs_mul,h.det,Nat.one_mul] at e;rw [e];have h1:=zoF (X:=Y) (N:=64) hm (A:=stR (fun a b=>X a (n+b)) j (dlz i)) (fun a b ha hb=>by
  unfold stR
  split
  ·unfold dlz;split <;> simp <;> omega
  ·exact hX a b ha hb)
 refine Nat.le_trans h1 ?_;have h2:(64*Y) ^ m≤(64*Y) ^ 64:=Nat.pow_le_pow_right (by omega) hm;omega
theorem Iv21.back (h:Iv21 m n X V) (hi:i<m) (hj:j<m):su m (fun k=>V k i*X k (n+j))=dlz i j:=by
 have hd:=h.det;have h0:Proofs.YtjjpodnjljfheaaGreat.det m (fun a b=>X a (n+b))≠0:=fun e=>by rw [e] at hd;simp at hd
 refine Int.eq_of_mul_eq_mul_left h0 ?_;rw [←zvA,zJA (g:=fun k=>Proofs.YtjjpodnjljfheaaGreat.adz m (fun a b=>X a (n+b)) i k*X k (n+j)) fun k hk=>by rw [←h.adz hi hk];grind,zfF (fun a b=>X a (n+b)) hi hj];unfold dlz
 split <;> simp
end
theorem inj_le21:∀ {r K:Nat} {ρ:Nat→Nat},(∀a,a<r→ρ a<K)→(∀a b,a<r→b<r→ρ a=ρ b→a=b)→r≤K:=fun {r K ρ} h1 h2=>by
 have hn:((List.range r).map ρ).Nodup:=zzD List.nodup_range fun x hx y hy e=>h2 x y (by simpa using hx) (by simpa using hy) e
 have hs:((List.range r).map ρ) ⊆ List.range K:=fun x hx=>by
  simp only [List.mem_map,List.mem_range] at hx ⊢;obtain ⟨a,ha,rfl⟩:=hx;exact h1 a ha
 have:=hn.length_le_of_subset hs
 simpa using this
theorem Ec18.rows21 {n K r:Nat} {ρ γ:Nat→Nat} {X:Nat→Nat→Int} (h:Ec18 n K r ρ γ X):r≤K:=inj_le21 h.rl h.inj
theorem tb21 {m n Y:Nat} {A:Nat→Nat→Int} (hm:m≤64) (hY:1≤Y) (h:∀t j,t<m→j<n→(A t j).natAbs≤Y):Tb18 m n A (64*(64*Y) ^ 64):=by
 have hp:∀e,e≤64→(64*Y) ^ e≤(64*Y) ^ 64:=fun e he=>Nat.pow_le_pow_right (by omega) he
 have h1:=hp 1 (by omega);rw [Nat.pow_one] at h1;refine ⟨by omega,fun t j ht hj=>by have:=h t j ht hj;omega,fun K r ρ γ X hK hE hR e t j ht hj=>?_⟩;have hr:=hE.rows21;have:=hE.size hR e (M:=(64*Y) ^ r) (fun R C hRK hC=>zoF (N:=64) (by omega) fun i j hi hj=>h _ _ (by have:=hRK i hi;omega) (hC j hj)) t j ht hj;exact Nat.le_trans this (Nat.mul_le_mul (by omega) (hp r (by omega)))
theorem Hb18.made21 {m n r:Nat} {γ:Nat→Nat} {X A:Nat→Nat→Int} (h:Hb18 m (n+m) m r id γ X A) (hA:∀i k,i<m→k<m→A i (n+k)=dlz i k) {i c:Nat} (hi:i<m) (hc:c<n):X i c=su m fun k=>X i (n+k)*A k c:=by
 obtain ⟨z,hz⟩:=(h.lat _).1 (Cm19.row X hi);have e:∀k,k<m→X i (n+k)=z k:=fun k hk=>by
  rw [hz (n+k) (by omega),zJA (g:=fun a=>z a*dlz a k) fun a ha=>by rw [hA a k ha hk]];exact zAG hk z
 rw [hz c (by omega)];exact zJA fun k hk=>by rw [e k hk]
theorem Ec18.front21 {m n N r:Nat} {γ:Nat→Nat} {X:Nat→Nat→Int} (h:Ec18 N m r id γ X) (hd:Rd18 0 r id γ X) (hn:n≤N):∃q,q≤r∧Ec18 n m q id γ X∧Rd18 0 q id γ X∧∀t,q≤t→t<m→∀j,j<n→X t j=0:=by
 have key:∀d,d≤r→∃q,q≤d∧(∀a,a<q→γ a<n)∧(q<d→n≤γ q):=by
  intro d
  induction d with
  | zero=>intro _;exact ⟨0,Nat.le_refl _,fun a ha=>by omega,fun h=>by omega⟩
  | succ d ih =>
   intro hd;obtain ⟨q,h1,h2,h3⟩:=ih (by omega)
   by_cases p:q<d
   ·exact ⟨q,by omega,h2,fun _=>h3 p⟩
   ·obtain rfl:q=d:=by omega
    by_cases p2:γ q<n
    ·exact ⟨q+1,Nat.le_refl _,fun a ha=>by
      by_cases p3:a=q
      ·subst p3;exact p2
      ·exact h2 a (by omega),fun h=>by omega⟩
    ·exact ⟨q,by omega,h2,fun _=>by omega⟩
 obtain ⟨q,h1,h2,h3⟩:=key r (Nat.le_refl _);have hz:∀t,q≤t→t<m→∀j,j<n→X t j=0:=fun t hqt ht j hj=>by
  by_cases p:t<r
  ·have hg:n≤γ t:=by
    by_cases p2:t=q
    ·subst p2;exact h3 p
    ·have:=h.up q t (by omega) p
     have:=h3 (by omega);omega
   exact h.zero t j p (by omega)
  ·exact h.rest t ht (fun a ha e=>by simp only [id] at e;omega) j (by omega)
 exact ⟨q,h1,⟨fun a b hab hb=>h.up a b hab (by omega),h2,fun a ha=>h.rl a (by omega),fun a b ha hb e=>e,fun a j ha hj=>h.zero a j (by omega) hj,fun a ha=>h.pos a (by omega),fun t ht hne j hj=>hz t (by
  by_cases p:t<q
  ·exact absurd rfl (hne t p)
  ·omega) ht j hj⟩,fun a b h1' h2' h3'=>hd a b h1' h2' (by omega),hz⟩
end Go.Proofs.YtjjpodnjljfheaaGreat
