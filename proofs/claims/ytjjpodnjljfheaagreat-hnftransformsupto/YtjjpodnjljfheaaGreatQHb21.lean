import Derived.Test.YtjjpodnjljfheaaGreatQHa21
import Derived.Test.YtjjpodnjljfheaaGreatQIp18ToOr18
set_option maxRecDepth 100000
set_option maxHeartbeats 6400000
set_option linter.unusedVariables false
set_option linter.unusedSimpArgs false
namespace Go.Proofs.YtjjpodnjljfheaaGreat
open Go.RowKit
section
variable {n i r c p T:Nat} {ρ γ:Nat→Nat} {X A:Nat→Nat→Int}
theorem Lv18.all21 (h:Lv18 n i r ρ γ X A c p T) (hr:r≤64):∀t j,t<i+1→j<n→(X t j).natAbs≤bd18 T 64:=fun t j ht hj=>by
 have hpr:=h.pr
 by_cases q:t=i
 ·subst q;exact Nat.le_trans (h.b3 j hj) (zTB h.one (by omega))
 ·by_cases q':∃a,a<r∧ρ a=t
  ·obtain ⟨a,ha,rfl⟩:=q'
   by_cases q2:a<p
   ·exact Nat.le_trans (h.b1 a j q2 hj) (zTB h.one (by omega))
   ·exact Nat.le_trans (h.b2 a j (by omega) ha hj) (zXG h.one _)
  ·rw [h.ec.rest t (by omega) (fun a ha e=>q' ⟨a,ha,e⟩) j hj];simp
theorem Lv18.none21 (h:Lv18 n i r ρ γ X A n p T) (hr:r≤64):Lo18 n (i+1) r ρ γ X A T :=
 ⟨⟨h.ec.up,h.ec.cl,fun a ha=>by have:=h.ec.rl a ha;omega,h.ec.inj,h.ec.zero,h.ec.pos,fun t ht hnr j hj=>by
  by_cases q:t=i
  ·subst q;exact h.zr j hj
  ·exact h.ec.rest t (by omega) hnr j hj⟩,h.lat,fun t ht=>h.keep t (by omega),h.all21 hr⟩
theorem Lv18.found21 (h:Lv18 n i r ρ γ X A c p T) (hc:c<n) (h0:0<X i c) (hs:¬(p<r∧γ p=c)) (hr:r≤64):Lo18 n (i+1) (r+1) (insF p i ρ) (insF p c γ) X A T:=by
 have hpr:=h.pr;have hgt:∀a,p≤a→a<r→c<γ a:=fun a h1 h2=>by
  have:=h.pa a h1 h2
  by_cases q:γ a=c
  ·by_cases q':a=p
   ·subst q';exact absurd ⟨h2,q⟩ hs
   ·have:=h.ec.up p a (by omega) h2;have:=h.pa p (Nat.le_refl _) (by omega);omega
  ·omega
 have cas:∀a,a<r+1→(a<p∧insF p i ρ a=ρ a∧insF p c γ a=γ a)∨(a=p∧insF p i ρ a=i∧insF p c γ a=c)∨(p<a∧a-1<r∧insF p i ρ a=ρ (a-1)∧insF p c γ a=γ (a-1)):=fun a ha=>by
  rcases Nat.lt_trichotomy a p with q | q | q
  ·exact .inl ⟨q,zlE q,zlE q⟩
  ·subst q;exact .inr (.inl ⟨rfl,znE _ _ _,znE _ _ _⟩)
  ·exact .inr (.inr ⟨q,by omega,zmE q,zmE q⟩)
 refine ⟨⟨fun a b hab hb=>?_,fun a ha=>?_,fun a ha=>?_,fun a b ha hb e=>?_,fun a j ha hj=>?_,fun a ha=>?_,fun t ht hnr j hj=>?_⟩,h.lat,fun t ht=>h.keep t (by omega),h.all21 hr⟩
 ·rcases cas a (by omega) with ⟨a1,a2,a3⟩ | ⟨a1,a2,a3⟩ | ⟨a1,a2,a3,a4⟩ <;> rcases cas b hb with ⟨b1,b2,b3⟩ | ⟨b1,b2,b3⟩ | ⟨b1,b2,b3,b4⟩
  ·rw [a3,b3];exact h.ec.up a b hab (by omega)
  ·rw [a3,b3];exact h.pb a a1
  ·rw [a3,b4];exact h.ec.up a (b-1) (by omega) b2
  ·omega
  ·omega
  ·rw [a3,b4];exact hgt _ (by omega) b2
  ·omega
  ·omega
  ·rw [a4,b4];exact h.ec.up (a-1) (b-1) (by omega) b2
 ·rcases cas a ha with ⟨a1,a2,a3⟩ | ⟨a1,a2,a3⟩ | ⟨a1,a2,a3,a4⟩
  ·rw [a3];exact h.ec.cl a (by omega)
  ·rw [a3];exact hc
  ·rw [a4];exact h.ec.cl _ a2
 ·rcases cas a ha with ⟨a1,a2,a3⟩ | ⟨a1,a2,a3⟩ | ⟨a1,a2,a3,a4⟩
  ·rw [a2];have:=h.ec.rl a (by omega);omega
  ·rw [a2];omega
  ·rw [a3];have:=h.ec.rl _ a2;omega
 ·rcases cas a ha with ⟨a1,a2,a3⟩ | ⟨a1,a2,a3⟩ | ⟨a1,a2,a3,a4⟩ <;> rcases cas b hb with ⟨b1,b2,b3⟩ | ⟨b1,b2,b3⟩ | ⟨b1,b2,b3,b4⟩
  ·rw [a2,b2] at e;exact h.ec.inj a b (by omega) (by omega) e
  ·rw [a2,b2] at e;exact absurd e (h.ne (by omega))
  ·rw [a2,b3] at e;have:=h.ec.inj a (b-1) (by omega) b2 e;omega
  ·rw [a2,b2] at e;exact absurd e.symm (h.ne (by omega))
  ·omega
  ·rw [a2,b3] at e;exact absurd e.symm (h.ne b2)
  ·rw [a3,b2] at e;have:=h.ec.inj (a-1) b a2 (by omega) e;omega
  ·rw [a3,b2] at e;exact absurd e (h.ne a2)
  ·rw [a3,b3] at e;have:=h.ec.inj (a-1) (b-1) a2 b2 e;omega
 ·rcases cas a ha with ⟨a1,a2,a3⟩ | ⟨a1,a2,a3⟩ | ⟨a1,a2,a3,a4⟩
  ·rw [a2];rw [a3] at hj;exact h.ec.zero a j (by omega) hj
  ·rw [a2];rw [a3] at hj;exact h.zr j hj
  ·rw [a3];rw [a4] at hj;exact h.ec.zero _ j a2 hj
 ·rcases cas a ha with ⟨a1,a2,a3⟩ | ⟨a1,a2,a3⟩ | ⟨a1,a2,a3,a4⟩
  ·rw [a2,a3];exact h.ec.pos a (by omega)
  ·rw [a2,a3];exact h0
  ·rw [a3,a4];exact h.ec.pos _ a2
 ·have q:t≠i:=fun e=>hnr p (by omega) (by rw [znE];exact e.symm)
  refine h.ec.rest t (by omega) (fun a ha=>?_) j hj
  by_cases q':a<p
  ·have:=hnr a (by omega);rwa [zlE q'] at this
  ·have:=hnr (a+1) (by omega);rwa [zmE (by omega)] at this
theorem Lv18.pw21 {kw:Nat} (h:Lv18 n i r ρ γ X A c p T) (hr:r≤64) (hT:((bd18 T 128:Nat):Int)<Proofs.YtjjpodnjljfheaaGreat.pw kw):∀t j,t<i+1→j<n→((X t j).natAbs:Int)<Proofs.YtjjpodnjljfheaaGreat.pw kw:=fun t j ht hj=>by
 have a:=h.all21 hr t j ht hj;have b:=zTB h.one (show 64≤128 by omega);omega
theorem Lv18.le21 {kw:Nat} (h:Lv18 n i r ρ γ X A c p T) (hr:r≤64) (hT:((bd18 T 128:Nat):Int)<Proofs.YtjjpodnjljfheaaGreat.pw kw) {z:Int} (hz:z.natAbs≤bd18 T p):((z.natAbs:Nat):Int)<Proofs.YtjjpodnjljfheaaGreat.pw kw:=by
 have:=h.pr;have b:=zTB h.one (show p≤128 by omega);omega
end
def zdH (R:zKA) (S:Nat→Prop) (B:Nat) (w:World) (bs:Nat) (sv:Value) (m n r:Nat) (ρ γ:Nat→Nat) (X:Nat→Nat→Int) (kw:Nat) (e:Ending) (w':World):Prop:=e=.returned (.tuple #[])∧zOA R B w' bs sv m n r ρ γ X kw∧Touch S w w'
theorem zRH {X Y:Nat→Nat→Int} {m i j a c d:Nat} {s:Int} (e:∀a,a<m→X a c=Y a d) (hi:i<m) (hj:j<m) (ha:a<m):lesX X i j s a c=lesX Y i j s a d:=by
 unfold lesX
 split
 ·rw [e i hi,e j hj]
 ·exact e a ha
theorem zNH {X Y:Nat→Nat→Int} {m i j a c d:Nat} {x y u v:Int} (e:∀a,a<m→X a c=Y a d) (hi:i<m) (hj:j<m) (ha:a<m):mixX X i j x y u v a c=mixX Y i j x y u v a d:=by
 unfold mixX;rw [e i hi,e j hj,e a ha]
theorem zLH {X Y:Nat→Nat→Int} {m i a c d:Nat} (e:∀a,a<m→X a c=Y a d) (hi:i<m) (ha:a<m):negX X i a c=negX Y i a d:=by
 unfold negX;rw [e i hi,e a ha]
theorem zBH {X Y:Nat→Nat→Int} {m i j a c d:Nat} (e:∀a,a<m→X a c=Y a d) (hi:i<m) (hj:j<m) (ha:a<m):swpX X i j a c=swpX Y i j a d:=by
 unfold swpX;rw [e i hi,e j hj,e a ha]
theorem Lk21.col {R:zKA} {m n kw t c:Nat} {X:Nat→Nat→Int} {Z:Nat→Nat→Nat→Int} {kz:Nat→Nat} (h:Lk21 R m n X kw Z kz) (ht:t<R.q) (h2:t≠2) (hc:c<R.wd m t):∃d,d<n∧(∀a,a<m→Z t a c=X a d)∧kz t=kw:=by
 have h3:=R.q3;obtain rfl | rfl:t=0∨t=1:=by omega
 ·have hc':c<R.n0:=hc
  refine ⟨c,?_,fun a ha=>(h.x0 a c ha hc').symm,h.k0 0 ht (by omega)⟩
  by_cases q:R.full=true
  ·have:=h.n2 q;omega
  ·have:=h.one (by simpa using q);omega
 ·have hf:=R.ful ht (by omega)
  have hc':c<m:=hc;exact ⟨R.n0+c,by have:=h.n2 hf;omega,fun a ha=>(h.x1 hf a c ha hc').symm,h.k0 1 ht (by omega)⟩
theorem zAJ {R:zKA} {B bs m n r kw l i j lt ct:Nat} {w:World} {sv:Value} {ρ γ:Nat→Nat} {X:Nat→Nat→Int} (h:zOA R B w bs sv m n r ρ γ X kw) {nt:Bool} {at0:Option Addr} {s:Int} (hi:i<m) (hj:j<m) (hij:i≠j) (ht:Zm 0 w (.agg #[.bool nt,.slice at0 lt ct]) s l)
  (hF:∀c,c<n→((X i c-s*X j c).natAbs:Int)<pw kw) (hm:m≤64) (hl:l≤kw) (hK:kw≤68719476736) :
  Calls Tryz.prog 115 #[.pointer (some ⟨bs,0,none⟩),.int .i64 (i:Int),.int .i64 (j:Int),.agg #[.bool nt,.slice at0 lt ct]] w (zdH R R.S B w bs sv m n r ρ γ (lesX X i j s) kw):=by
 obtain ⟨gs,Z,kz,h1,h2⟩:=h;have iv:R.full=true→Iv21 m R.n0 (lesX X i j s) (lesX (Z 2) j i (-s)):=fun q=>(h2.iv q).les hi hj hij s
 have hX:∀a c,a<m→c<n→((lesX X i j s a c).natAbs:Int)<pw kw:=fun a c ha hc=>by
  by_cases q:a=i
  ·subst q;rw [zDB];exact hF c hc
  ·rw [zdA q];exact h1.x h2 ha hc
 refine (lessw21 h1 hi hj hij ht (fun t htq h2' c hc=>?_) (fun q c hc=>?_) hm h2.n64 (fun t htq=>?_)).mono fun e w' ⟨q1,q2,q3⟩=>⟨q1,⟨gs,_,kz,q2,⟨h2.n64,h2.k1,h2.k0,fun a c ha hc=>?_,h2.one,h2.n2,fun q a c ha hc=>?_,iv⟩⟩,q3⟩
 ·obtain ⟨d,hd,e,ek⟩:=h2.col htq h2' hc
  rw [e i hi,e j hj,ek];exact hF d hd
 ·have hn2:=h2.n2 q
  have:=zKE (iv q) hm h2.k1 (fun a k ha hk=>hX a _ ha (by omega)) j c hj hc;rw [zDB] at this;rw [hn2.2.1];exact this
 ·by_cases q:t=2
  ·subst q;have:=h2.n2 (R.ful htq (by omega));omega
  ·rw [h2.k0 t htq q];omega
 ·exact zRH (fun a ha=>h2.x0 a c ha hc) hi hj ha
 ·exact zRH (fun a ha=>h2.x1 q a c ha hc) hi hj ha
theorem mix21 {R:zKA} {B bs m n r kw l i j lx cx ly cy lu cu lv0 cv:Nat} {w:World} {sv:Value} {ρ γ:Nat→Nat} {X:Nat→Nat→Int} (h:zOA R B w bs sv m n r ρ γ X kw) {nx ny nu nv:Bool} {ax ay au av:Option Addr} {x y u v:Int} (hi:i<m) (hj:j<m) (hij:i≠j)
  (hx:Zm 0 w (.agg #[.bool nx,.slice ax lx cx]) x l) (hy:Zm 0 w (.agg #[.bool ny,.slice ay ly cy]) y l) (hu:Zm 0 w (.agg #[.bool nu,.slice au lu cu]) u l) (hv:Zm 0 w (.agg #[.bool nv,.slice av lv0 cv]) v l)
  (hF:∀c,c<n→((x*X i c+y*X j c).natAbs:Int)<pw kw) (hG:∀c,c<n→((u*X i c+v*X j c).natAbs:Int)<pw kw) (hd:x*v-y*u=1) (hm:m≤64) (hl:l≤kw) (hK:kw≤68719476736) :
  Calls Tryz.prog 117 #[.pointer (some ⟨bs,0,none⟩),.int .i64 (i:Int),.int .i64 (j:Int),.agg #[.bool nx,.slice ax lx cx,.bool ny,.slice ay ly cy,.bool nu,.slice au lu cu,.bool nv,.slice av lv0 cv]] w (zdH R R.S B w bs sv m n r ρ γ (mixX X i j x y u v) kw):=by
 obtain ⟨gs,Z,kz,h1,h2⟩:=h;have iv:R.full=true→Iv21 m R.n0 (mixX X i j x y u v) (mixX (Z 2) i j v (-u) (-y) x):=fun q=>(h2.iv q).mix hi hj hij hd
 have hX:∀a c,a<m→c<n→((mixX X i j x y u v a c).natAbs:Int)<pw kw:=fun a c ha hc=>by
  by_cases q:a=i
  ·subst q;rw [zFC];exact hF c hc
  ·by_cases q2:a=j
   ·subst q2;rw [zVC hij];exact hG c hc
   ·rw [zYB q q2];exact h1.x h2 ha hc
 refine (mixw21 h1 hi hj hij hx hy hu hv (fun t htq h2' c hc=>?_) (fun t htq h2' c hc=>?_) (fun q c hc=>?_) (fun q c hc=>?_) hm h2.n64 (fun t htq=>?_)).mono fun e w' ⟨q1,q2,q3⟩=>⟨q1,⟨gs,_,kz,q2,⟨h2.n64,h2.k1,h2.k0,fun a c ha hc=>?_,h2.one,h2.n2,fun q a c ha hc=>?_,iv⟩⟩,q3⟩
 ·obtain ⟨d,hd,e,ek⟩:=h2.col htq h2' hc
  rw [e i hi,e j hj,ek];exact hF d hd
 ·obtain ⟨d,hd,e,ek⟩:=h2.col htq h2' hc
  rw [e i hi,e j hj,ek];exact hG d hd
 ·have hn2:=h2.n2 q
  have:=zKE (iv q) hm h2.k1 (fun a k ha hk=>hX a _ ha (by omega)) i c hi hc;rw [zFC] at this;rw [hn2.2.1];exact this
 ·have hn2:=h2.n2 q
  have:=zKE (iv q) hm h2.k1 (fun a k ha hk=>hX a _ ha (by omega)) j c hj hc;rw [zVC hij] at this;rw [hn2.2.1];exact this
 ·by_cases q:t=2
  ·subst q;have:=h2.n2 (R.ful htq (by omega));omega
  ·rw [h2.k0 t htq q];omega
 ·exact zNH (fun a ha=>h2.x0 a c ha hc) hi hj ha
 ·exact zNH (fun a ha=>h2.x1 q a c ha hc) hi hj ha
theorem positive21 {R:zKA} {B bs m n r kw i c:Nat} {w:World} {sv:Value} {ρ γ:Nat→Nat} {X:Nat→Nat→Int} (h:zOA R B w bs sv m n r ρ γ X kw) (hi:i<m) (hc:c<n) (h0:0<X i c) (hm:m≤64) :
  Calls Tryz.prog 75 #[.pointer (some ⟨bs,0,none⟩),.int .i64 (i:Int),.int .i64 (c:Int)] w fun e w'=>e=.returned (.tuple #[])∧Below w.heap.size w w':=by
 have HA:=hid (at21 h hi hc hm);have hs:cmpI (X i c) 0=1:=by unfold cmpI;split <;> (try split) <;> omega
 have HS:=hid hs;clear h hi hc h0 hs;go_enter Tryz.func75,Tryz.ntmps75;go_wp2_with fail;refine HA.out.mono ?_;rintro e w1 ⟨nb,a,l,cc,rfl,z,b⟩;have HZ:=hid (zFB z.zi);have B1:=hid b;clear HA z b;go_wp2_with fail;refine HZ.out.mono ?_;rintro e w2 ⟨rfl,b⟩;rw [HS.out];have FF:=hid (below_step B1.out b);clear HZ B1 b;go_wp2;refine bodyPost_ret (results_none rfl _ _ _) rfl ?_;exact ⟨rfl,FF.out⟩
theorem negate21 {R:zKA} {B bs m n r kw i c:Nat} {w:World} {sv:Value} {ρ γ:Nat→Nat} {X:Nat→Nat→Int} (h:zOA R B w bs sv m n r ρ γ X kw) (hi:i<m) (hc:c<n) (h0:¬0<X i c) (hm:m≤64) :
  Calls Tryz.prog 75 #[.pointer (some ⟨bs,0,none⟩),.int .i64 (i:Int),.int .i64 (c:Int)] w (zdH R R.S B w bs sv m n r ρ γ (negX X i) kw):=by
 have hat:=at21 h hi hc hm;obtain ⟨gs,Z,kz,h1,h2⟩:=h;exact (negw21 h1 hi hat h0 hm h2.n64).mono fun e w' ⟨q1,q2,q3⟩=>⟨q1,⟨gs,_,kz,q2,⟨h2.n64,h2.k1,h2.k0,fun a c ha hc=>zLH (fun a ha=>h2.x0 a c ha hc) hi ha,h2.one,h2.n2,fun q a c ha hc=>zLH (fun a ha=>h2.x1 q a c ha hc) hi ha,fun q=>(h2.iv q).neg i⟩⟩,q3⟩
def ExO21 (R:zKA) (B:Nat) (w:World) (bs:Nat) (sv:Value) (m n r:Nat) (ρ γ:Nat→Nat) (X:Nat→Nat→Int) (kw:Nat) (e:Ending) (w':World):Prop :=
 e=.returned (.tuple #[])∧zOA R B w' bs sv m n r ρ γ X kw∧Below B w w'
theorem exch21 {R:zKA} {B bs m n r kw i j:Nat} {w:World} {sv:Value} {ρ γ:Nat→Nat} {X:Nat→Nat→Int} (h:zOA R B w bs sv m n r ρ γ X kw) (hi:i<m) (hj:j<m) (hm:m≤64) (hB:B≤w.heap.size) :
  Calls Tryz.prog 78 #[.pointer (some ⟨bs,0,none⟩),.int .i64 (i:Int),.int .i64 (j:Int)] w (ExO21 R B w bs sv m n r ρ γ (swpX X i j) kw):=by
 by_cases q:i=j
 ·subst q
  refine (exch_same18 (w:=w) (bs:=bs) (i:=i) (by omega)).mono fun e w' ⟨h1,h2⟩=>?_
  subst h2;refine ⟨h1,h.congr fun t c _ _=>?_,Below.refl _ _⟩;unfold swpX
  by_cases q:t=i
  ·rw [if_pos q,q]
  ·rw [if_neg q,if_neg q]
 ·obtain ⟨gs,Z,kz,h1,h2⟩:=h
  refine (exchw21 h1 hi hj q hm).mono fun e w' ⟨q1,q2,q3⟩=>⟨q1,⟨_,_,kz,q2,⟨h2.n64,h2.k1,h2.k0,fun a c ha hc=>zBH (fun a ha=>h2.x0 a c ha hc) hi hj ha,h2.one,h2.n2,fun q a c ha hc=>zBH (fun a ha=>h2.x1 q a c ha hc) hi hj ha,fun qf=>(h2.iv qf).swp hi hj q⟩⟩,⟨q3.os,q3.tape,q3.output,q3.size,fun b hb=>q3.block b (by omega) ?_⟩⟩
  rintro ⟨t,n',c',ht,e⟩;rcases (h1.sh t ht).1 with ⟨_,e2⟩ | ⟨h0,Lb,cap,rr,e2,e3,e4,e5⟩
  ·rw [e] at e2;cases e2
  ·rw [e] at e2
   simp only [Value.slice.injEq,Option.some.injEq,Addr.mk.injEq,and_true,true_and] at e2;omega
section
variable {R:zKA} {B bs m n r kw:Nat} {w w':World} {sv:Value} {ρ γ:Nat→Nat} {X:Nat→Nat→Int}
theorem zOA.steps {r':Nat} {sv':Value} {ρ' γ':Nat→Nat} (hf:zOA R B w bs sv m n r ρ γ X kw) (ht:Touch (fun b=>sv.ownBlock=some b) w w') (hs:Sp18 B w' sv' r' ρ' γ') :
  zOA R B (w'.setCell ⟨bs,2,none⟩ sv') bs sv' m n r' ρ' γ' X kw:=by
 obtain ⟨gs,Z,kz,h,h2⟩:=hf;have ty:Ty 105 w w':=ht.tyS18 fun b q=>by
  rcases h.sp with ⟨_,e⟩ | ⟨_,Bp,cap,t,e,_,_,_,_,e4⟩
  ·rw [e] at q;cases q
  ·rw [e] at q
   simp [Value.ownBlock] at q;subst q;exact ⟨_,e4⟩
 have c1:=h.s.ty13 ty (by decide);have ty2:Ty 66 w' (w'.setCell ⟨bs,2,none⟩ sv'):=Ty.set c1;exact ⟨gs,Z,kz,⟨c1.set 2 sv',(h.l.ty13 ty (by decide)).ty13 ty2 (by decide),(h.h.ty13 ty (by decide)).ty13 ty2 (by decide),fun t ht=>((h.a t ht).ty13 ty (by decide)).ty13 ty2 (by decide),fun e=>((h.g e).ty13 ty (by decide)).ty13 ty2 (by decide),hs.cel fun _ _ d=>d.ty13 ty2 (by decide),fun t ht=>((h.sh t ht).ty ty (by decide) (by decide) (by decide)).ty ty2 (by decide) (by decide) (by decide),h.ne,h.rs,h.ln⟩,h2⟩
theorem zOA.put {Bp cap l v:Nat} (hf:zOA R B w bs (.slice (some ⟨Bp,0,none⟩) r cap) m n r ρ γ X kw) (hl:l<r) :
  zOA R B (w.setCell ⟨Bp,l*2,none⟩ (.int .i64 (v:Int))) bs (.slice (some ⟨Bp,0,none⟩) r cap) m n r (updF ρ l v) γ X kw:=by
 obtain ⟨gs,Z,kz,h,h2⟩:=hf;rcases h.sp with ⟨e,_⟩ | ⟨h0,Bp',cap',t,e,e0,e1,e2,e3,e4⟩
 ·omega
 simp only [Value.slice.injEq,Option.some.injEq,Addr.mk.injEq,and_true,true_and] at e;obtain ⟨rfl,rfl⟩:=e;have ty:Ty 105 w (w.setCell ⟨Bp,l*2,none⟩ (.int .i64 (v:Int))):=Ty.set e4;have c:=e4.set (l*2) (.int .i64 (v:Int));rw [sc18_set hl] at c;exact ⟨gs,Z,kz,⟨h.s.ty13 ty (by decide),h.l.ty13 ty (by decide),h.h.ty13 ty (by decide),fun t ht=>(h.a t ht).ty13 ty (by decide),fun e=>(h.g e).ty13 ty (by decide),.inr ⟨h0,Bp,cap,t,rfl,e0,e1,e2,e3,c⟩,fun t ht=>(h.sh t ht).ty ty (by decide) (by decide) (by decide),h.ne,h.rs,h.ln⟩,h2⟩
theorem zOA.rows {ρ':Nat→Nat} (hf:zOA R B w bs sv m n r ρ γ X kw) (e:∀a,a<r→ρ a=ρ' a):zOA R B w bs sv m n r ρ' γ X kw:=by
 obtain ⟨gs,Z,kz,h,h2⟩:=hf;refine ⟨gs,Z,kz,⟨h.s,h.l,h.h,h.a,h.g,?_,h.sh,h.ne,h.rs,h.ln⟩,h2⟩;rcases h.sp with q | ⟨h0,Bp,cap,t,e',e0,e1,e2,e3,e4⟩
 ·exact .inl q
 ·rw [zlD fun a ha=>⟨e a ha,rfl⟩] at e4
  exact .inr ⟨h0,Bp,cap,t,e',e0,e1,e2,e3,e4⟩
theorem zOA.below (h:zOA R B w bs sv m n r ρ γ X kw) (ht:Touch R.S w w') (hB:B≤w.heap.size):Below B w w':=⟨ht.os,ht.tape,ht.output,ht.size,fun b hb=>ht.block b (by omega) fun q=>by have:=h.low q;omega⟩
theorem zOA.kc21 (hf:zOA R B w bs sv m n r ρ γ X kw) (hk:Kc w w'):zOA R B w' bs sv m n r ρ γ X kw:=by
 obtain ⟨gs,Z,kz,h,h2⟩:=hf;refine ⟨gs,Z,kz,⟨hk.cel h.s,hk.cel h.l,hk.cel h.h,fun t ht=>hk.cel (h.a t ht),fun e=>hk.cel (h.g e),h.sp.cel fun _ _ d=>hk.cel d,fun t ht=>?_,h.ne,h.rs,h.ln⟩,h2⟩;obtain ⟨h1,h4,h5⟩:=h.sh t ht;refine ⟨?_,h4,fun i hi=>⟨(h5 i hi).1,(h5 i hi).2.kc18 hk⟩⟩;rcases h1 with h1 | ⟨h0,Lb,cap,t,e,e0,e1,e2⟩
 ·exact .inl h1
 ·exact .inr ⟨h0,Lb,cap,t,e,e0,e1,hk.cel e2⟩
end
end Go.Proofs.YtjjpodnjljfheaaGreat
