/-
 QUf18ToAdd11: Uf18, Mo18, Zg18, Pure9, St11, Ty9, Sh11, TailA, Do11, Neg11, Add11, joined.
-/
import Derived.Test.YtefpboopafdhpaaGreatQHq18
import Derived.Test.YtefpboopafdhpaaGreatQDz12ToHn18
import Derived.Test.YtefpboopafdhpaaGreatQCat9ToPr12
import Derived.Laws.OwnMore
import Derived.Test.YtefpboopafdhpaaGreatQFil9ToRowsOf9
import Derived.Test.YtefpboopafdhpaaGreatQZOnesToZCmp
import Derived.Test.YtefpboopafdhpaaGreatQZAdd

set_option maxRecDepth 100000
set_option maxHeartbeats 6400000
set_option linter.unusedVariables false
set_option linter.unusedSimpArgs false
namespace Go.Proofs.YtefpboopafdhpaaGreat
def Hf18 (n m:Nat) (X:Nat→Nat→Int):Prop:=∃r γ,Ec18 n m r id γ X∧Rd18 0 r id γ X
structure Pf18 (n i r nx:Nat) (γ:Nat→Nat) (X:Nat→Nat→Int):Prop where
 ec:Ec18 n i r id γ X
 rd:Rd18 0 r id γ X
 le:r≤i
 nx:∀c,c<n→(c<nx↔(r<i∨(0<r∧c≤γ (r-1))))
section
variable {n m i r nx c:Nat} {γ:Nat→Nat} {X:Nat→Nat→Int}
theorem Pf18.start (n:Nat) (γ:Nat→Nat) (X:Nat→Nat→Int):Pf18 n 0 0 0 γ X :=
 ⟨⟨fun a b _ h=>by omega,fun a h=>by omega,fun a h=>by omega,fun a b h=>by omega,fun a j h=>by omega,fun a h=>by omega,fun t h=>by omega⟩,fun a b _ _ h=>by omega,Nat.le_refl _,fun c _=>by omega⟩
theorem Pf18.zero (h:Pf18 n i r nx γ X) (hz:∀j,j<n→X i j=0):Pf18 n (i+1) r n γ X:=by
 have hle:=h.le;refine ⟨⟨h.ec.up,h.ec.cl,fun a ha=>by simp only [id];omega,h.ec.inj,h.ec.zero,h.ec.pos,fun t ht hn j hj=>?_⟩,h.rd,by omega,fun c hc=>⟨fun _=>.inl (by omega),fun _=>hc⟩⟩
 by_cases q:t=i
 ·subst q;exact hz j hj
 ·exact h.ec.rest t (by omega) hn j hj
theorem Pf18.piv (h:Pf18 n i r nx γ X) (hc:c<n) (h0:∀j,j<c→X i j=0) (h1:0<X i c) (h2:nx≤c) (h3:∀k,k<i→0≤X k c∧X k c<X i c):r=i∧Pf18 n (i+1) (i+1) (c+1) (fun a=>if a=i then c else γ a) X:=by
 have hle:=h.le;have hn:¬(r<i∨(0<r∧c≤γ (r-1))):=fun e=>by have:=(h.nx c hc).2 e;omega
 have hr:r=i:=by omega
 subst hr;have hg:∀a,a<r→γ a<c:=fun a ha=>by
  have h5:¬(0<r∧c≤γ (r-1)):=fun e=>hn (.inr e)
  by_cases q:a=r-1
  ·rw [q];omega
  ·have:=h.ec.up a (r-1) (by omega) (by omega);omega
 refine ⟨rfl,⟨fun a b hab hb=>?_,fun a ha=>?_,fun a ha=>ha,fun a b _ _ e=>e,fun a j ha hj=>?_,fun a ha=>?_,fun t ht hn' j hj=>absurd rfl (hn' t ht)⟩,fun a b _ hab hb=>?_,Nat.le_refl _,fun d hd=>?_⟩
 ·show (if a=r then c else γ a)<(if b=r then c else γ b)
  rw [if_neg (by omega)]
  by_cases q:b=r
  ·rw [if_pos q];exact hg a (by omega)
  ·rw [if_neg q];exact h.ec.up a b hab (by omega)
 ·show (if a=r then c else γ a)<n
  by_cases q:a=r
  ·rw [if_pos q];exact hc
  ·rw [if_neg q];exact h.ec.cl a (by omega)
 ·by_cases q:a=r
  ·subst q;simp only [if_true] at hj;exact h0 j hj
  ·simp only [if_neg q] at hj;exact h.ec.zero a j (by omega) hj
 ·by_cases q:a=r
  ·subst q;show 0<X a (if a=a then c else γ a);rw [if_pos rfl];exact h1
  ·show 0<X a (if a=r then c else γ a);rw [if_neg q];exact h.ec.pos a (by omega)
 ·show 0≤X a (if b=r then c else γ b)∧X a (if b=r then c else γ b)<X b (if b=r then c else γ b)
  by_cases q:b=r
  ·rw [if_pos q,q];exact h3 a (by omega)
  ·rw [if_neg q];exact h.rd a b (Nat.zero_le _) hab (by omega)
 ·show d<c+1↔(r+1<r+1∨(0<r+1∧d≤(if r+1-1=r then c else γ (r+1-1))))
  rw [if_pos (by omega)];omega
theorem Hf18.first {r':Nat} {γ':Nat→Nat} (hE:Ec18 n m r' id γ' X) (hi:i<m) (hc:c<n) (h0:∀j,j<c→X i j=0) (h1:X i c≠0):i<r'∧γ' i=c:=by
 have hr:i<r':=by
  rcases Nat.lt_or_ge i r' with q | q
  ·exact q
  ·exact absurd (hE.rest i hi (fun a ha e=>by simp only [id] at e;omega) c hc) h1
 refine ⟨hr,?_⟩;rcases Nat.lt_trichotomy (γ' i) c with q | q | q
 ·have h2:=h0 _ q
  have h3:=hE.pos i hr;simp only [id] at h3;omega
 ·exact q
 ·exact absurd (hE.zero i c hr q) h1
theorem Pf18.not_next (h:Pf18 n i r nx γ X) (hi:i<m) (hc:c<n) (h0:∀j,j<c→X i j=0) (h1:X i c≠0) (h2:c<nx):¬Hf18 n m X:=by
 rintro ⟨r',γ',hE,hR⟩;obtain ⟨g1,g2⟩:=Hf18.first hE hi hc h0 h1;rcases (h.nx c hc).1 h2 with q | ⟨q,q2⟩
 ·have h3:=hE.pos r (by omega)
  have h4:=h.ec.rest r q (fun a ha e=>by simp only [id] at e;omega) (γ' r) (hE.cl r (by omega));simp only [id] at h3;omega
 ·have hle:=h.le
  have h5:=h.ec.pos (r-1) (by omega);simp only [id] at h5;obtain ⟨-,g4⟩:=Hf18.first hE (i:=r-1) (c:=γ (r-1)) (by omega) (h.ec.cl (r-1) (by omega)) (fun j hj=>h.ec.zero (r-1) j (by omega) hj) (by omega);have:=hE.up (r-1) i (by omega) g1;omega
theorem Hf18.not_neg (hi:i<m) (hc:c<n) (h0:∀j,j<c→X i j=0) (h1:X i c<0):¬Hf18 n m X:=by
 rintro ⟨r',γ',hE,hR⟩;obtain ⟨g1,g2⟩:=Hf18.first hE hi hc h0 (by omega);have:=hE.pos i g1;rw [g2] at this;simp only [id] at this;omega
theorem Hf18.not_red {k:Nat} (hi:i<m) (hc:c<n) (h0:∀j,j<c→X i j=0) (h1:X i c≠0) (hk:k<i) (h2:¬(0≤X k c∧X k c<X i c)):¬Hf18 n m X:=by
 rintro ⟨r',γ',hE,hR⟩;obtain ⟨g1,g2⟩:=Hf18.first hE hi hc h0 h1;have:=hR k i (Nat.zero_le _) hk g1;rw [g2] at this;exact h2 this
theorem Hb18.form {r':Nat} {γ':Nat→Nat} {A:Nat→Nat→Int} (h:Hb18 m n m r' id γ' X A):Hf18 n m A↔∀i j,i<m→j<n→A i j=X i j:=by
 constructor
 ·rintro ⟨r,γ,hE,hR⟩ i j hi hj
  obtain ⟨rfl,hq⟩:=hE.one h.ec hR h.rd fun v=>(h.lat v).symm
  by_cases q:i<r
  ·exact (hq i q).2 j hj
  ·rw [hE.rest i hi (fun a ha e=>by simp only [id] at e;omega) j hj,h.ec.rest i hi (fun a ha e=>by simp only [id] at e;omega) j hj]
 ·intro e
  refine ⟨r',γ',⟨h.ec.up,h.ec.cl,h.ec.rl,h.ec.inj,fun a j ha hj=>?_,fun a ha=>?_,fun t ht hn j hj=>?_⟩,fun a b h1 h2 h3=>?_⟩
  ·have h4:=h.ec.cl a ha
   have h5:=h.ec.rl a ha;simp only [id] at h5
   show A a j=0
   rw [e a j h5 (by omega)];exact h.ec.zero a j ha hj
  ·have h5:=h.ec.rl a ha
   simp only [id] at h5
   show 0<A a (γ' a)
   rw [e a _ h5 (h.ec.cl a ha)];exact h.ec.pos a ha
  ·rw [e t j ht hj];exact h.ec.rest t ht hn j hj
  ·have h5:=h.ec.rl a (by omega)
   have h6:=h.ec.rl b h3;simp only [id] at h5 h6
   show 0≤A a (γ' b)∧A a (γ' b)<A b (γ' b)
   rw [e a _ h5 (h.ec.cl b h3),e b _ h6 (h.ec.cl b h3)];exact h.rd a b h1 h2 h3
end
def mvX (X:Nat→Nat→Int) (i j:Nat) (ev:Bool) (k:Int):Nat→Nat→Int:=if i=j then negX X i else if ev=true then swpX X i j else lesX X i j (-k)
theorem cm_mvX {K n i j:Nat} {X:Nat→Nat→Int} (hi:i<K) (hj:j<K) (ev:Bool) (k:Int) (v:Nat→Int):Cm19 K n (mvX X i j ev k) v↔Cm19 K n X v:=by
 unfold mvX
 split
 ·exact zAH hi v
 ·split
  ·exact zzG hi hj v
  ·exact zvE hi hj (by assumption) (-k) v
def mvsX:List (Nat×Nat×Bool×Int)→(Nat→Nat→Int)→(Nat→Nat→Int)
 | [],X=>X
 | s :: l,X=>mvsX l (mvX X s.1 s.2.1 s.2.2.1 s.2.2.2)
theorem zBH {K n:Nat}:∀ {l:List (Nat×Nat×Bool×Int)} {X:Nat→Nat→Int},(∀s∈l,s.1<K∧s.2.1<K)→∀v,Cm19 K n (mvsX l X) v↔Cm19 K n X v
 | [],X,_,v=>Iff.rfl
 | s :: l,X,h,v=>(zBH (fun t ht=>h t (List.mem_cons_of_mem _ ht)) v).trans (cm_mvX (h s (List.mem_cons_self ..)).1 (h s (List.mem_cons_self ..)).2 _ _ v)
theorem zNF (s:Nat×Nat×Bool×Int):∀(l:List (Nat×Nat×Bool×Int)) (X:Nat→Nat→Int),mvsX (l ++ [s]) X=mvX (mvsX l X) s.1 s.2.1 s.2.2.1 s.2.2.2
 | [],X=>rfl
 | t :: l,X=>zNF s l _
def zG18 (m n:Nat) (F:Nat→Nat→Int):List Int:=(List.range (m*n)).map fun t=>F (t / n) (t % n)
theorem zqA (m n:Nat) (F:Nat→Nat→Int):(zG18 m n F).length=m*n:=by simp [zG18]
theorem zoC {m n i j:Nat} (hi:i<m) (hj:j<n):i*n+j<m*n:=by
 have h:=Nat.mul_le_mul_right n (show i+1≤m from hi);rw [Nat.succ_mul] at h;omega
theorem zgF {n i j:Nat} (hj:j<n):(i*n+j) / n=i∧(i*n+j) % n=j:=by
 have hn:0<n:=by omega
 rw [Nat.mul_comm i n,Nat.mul_add_div hn,Nat.mul_add_mod,Nat.div_eq_of_lt hj,Nat.mod_eq_of_lt hj];exact ⟨by omega,rfl⟩
theorem zcG {m n i j:Nat} {F:Nat→Nat→Int} (hi:i<m) (hj:j<n):(zG18 m n F).getD (i*n+j) 0=F i j:=by
 have h:=zoC hi hj;have e:=zgF (i:=i) hj;simp [zG18,h,e.1,e.2]
theorem zLB {m n:Nat} {F G:Nat→Nat→Int} (h:∀i j,i<m→j<n→F i j=G i j):zG18 m n F=zG18 m n G:=List.map_congr_left fun t ht=>by
 have ht':t<m*n:=by simpa using ht
 have hn:0<n:=Nat.pos_of_ne_zero fun e=>by subst e;simp at ht'
 exact h _ _ (Nat.div_lt_of_lt_mul (by rw [Nat.mul_comm];exact ht')) (Nat.mod_lt _ hn)
def en18 (n:Nat) (zs:List Int):Nat→Nat→Int:=fun i j=>zs.getD (i*n+j) 0
theorem zfF {m n:Nat} {zs:List Int} (h:zs.length=m*n):zG18 m n (en18 n zs)=zs:=by
 refine List.ext_getElem (by rw [zqA,h]) fun t h1 h2=>?_
 have ht:t<m*n:=by rw [zqA] at h1;exact h1
 simp only [zG18,List.getElem_map,List.getElem_range,en18];rw [Nat.mul_comm (t / n) n,Nat.div_add_mod];simp [h2]
theorem zsE {m n i j:Nat} {F:Nat→Nat→Int} (hi:i<m) (hj:j<n):en18 n (zG18 m n F) i j=F i j:=zcG hi hj

def zeB (zss:List (List Int)) (i:Nat):List Int:=zss.getD i []
def Wide (c:Nat) (m:List (List Int)):Prop:=∀r∈m,r.length=c
theorem Wide.at {c i:Nat} {m:List (List Int)} (h:Wide c m) (hi:i<m.length):(zeB m i).length=c:=by
 have e:zeB m i=m[i]:=by simp [zeB,hi]
 rw [e];exact h _ (List.getElem_mem hi)
theorem rows_wide {r c:Nat} {zs:List Int} (hl:zs.length=r*c):Wide c (rowsL r c zs):=rows_len hl
theorem zZB {r c:Nat} {zs:List Int}:(rowsL r c zs).length=r:=by simp [rowsL]
open Go.RowKit
def Ty (T:TypeId) (w w':World):Prop:=w.heap.size≤w'.heap.size∧∀(b:Nat) (L:Array Value) (T':TypeId) (fr:Nat×Nat),w.heap[b]?=some (.cells L T' fr)→T'≠T→w'.heap[b]?=some (.cells L T' fr)
theorem Ty.trans {T:TypeId} {a b c:World} (h:Ty T a b) (h':Ty T b c):Ty T a c:=⟨Nat.le_trans h.1 h'.1,fun g L T' fr e hne=>h'.2 g L T' fr (h.2 g L T' fr e hne) hne⟩
theorem Ty.set {T:TypeId} {w:World} {g i:Nat} {L:List Value} {u:Value} (d:Cel w g T L):Ty T w (w.setCell ⟨g,i,none⟩ u):=by
 refine ⟨by simp,fun b L' T' fr e hne=>?_⟩;have hb:b≠g:=fun q=>by
  subst q;have:=e.symm.trans (show w.heap[b]?=_ from d);simp at this;exact hne this.2.1
 exact (Below.heap_setCell w _ u b (fun q=>hb (by simpa using q))).trans e
theorem Ty.grown {T:TypeId} {w w':World} {B size n:Nat} {v:Value} {xs:List Value} (h:w.ownsRow B T size v n xs) (hg:w.grownBy w' v.ownBlock):Ty T w w':=by
 refine ⟨hg.size,fun b L' T' fr e hne=>(hg.block b (Array.getElem?_eq_some_iff.1 e).1 (fun q=>?_)).trans e⟩;obtain ⟨_,⟨q1,_⟩ | ⟨g,cap,cur,q1,_,q3,_⟩⟩:=h
 ·rw [q1] at q;cases q
 ·rw [q1] at q
  simp only [Value.ownBlock,Option.some.injEq] at q;subst q;have:=e.symm.trans q3;simp at this;exact hne this.2.1
theorem Zm.ty {T:TypeId} {B k:Nat} {w w':World} {v:Value} {z:Int} (h:Zm B w v z k) (ht:Ty T w w') (hT:43≠T):Zm B w' v z k:=by
 obtain ⟨n1,zs,a,c,e,hm,rest⟩:=h;refine ⟨n1,zs,a,c,e,?_,rest⟩;obtain ⟨hw,h | ⟨g,r,cap,h1,h2,h3,h4,h5,h6⟩⟩:=hm
 ·exact ⟨hw,.inl h⟩
 ·exact ⟨hw,.inr ⟨g,r,cap,h1,h2,h3,h4,h5,ht.2 g _ _ _ h6 hT⟩⟩
def PrsT (w:World) (v:Value) (ps:List (Value×Value)):Prop:=Prs 0 w v ps∧∀(b off l c:Nat),v=.slice (some ⟨b,off,none⟩) l c→∃(L:Array Value) (fr:Nat×Nat),w.heap[b]?=some (.cells L 41 fr)
theorem Arr.prsT {w:World} {g:Nat} {ps:List (Value×Value)} (h:Arr w g ps) (hl:ps.length≤1048576):PrsT w (.slice (some ⟨g,0,none⟩) ps.length ps.length) ps:=by
 refine ⟨h.prs (Nat.zero_le _) hl (Nat.le_refl _),fun b off l c e=>?_⟩;simp only [Value.slice.injEq,Option.some.injEq,Addr.mk.injEq] at e;obtain ⟨⟨rfl,-,-⟩,-,-⟩:=e;exact ⟨_,_,h.1⟩
def Zms (w:World) (ps:List (Value×Value)) (zs:List Int) (k:Nat):Prop:=ps.length=zs.length∧∀(j:Nat) (p:Value×Value) (z:Int),ps[j]?=some p→zs[j]?=some z→Zm 0 w (.agg #[p.1,p.2]) z k
theorem Zms.ty {T:TypeId} {w w':World} {ps:List (Value×Value)} {zs:List Int} {k:Nat} (h:Zms w ps zs k) (ht:Ty T w w') (hT:43≠T):Zms w' ps zs k:=⟨h.1,fun j p z hp hz=>(h.2 j p z hp hz).ty ht hT⟩
theorem Zms.now {w w':World} {ps:List (Value×Value)} {zs:List Int} {k:Nat} (h:Zms w ps zs k) (hb:Below w.heap.size w w'):Zms w' ps zs k:=⟨h.1,fun j p z hp hz=>(h.2 j p z hp hz).now hb⟩
theorem Zms.zcs {w:World} {ps:List (Value×Value)} {zs:List Int} {k:Nat} (h:Zms w ps zs k):Zcs w ps zs k:=⟨h.1,fun j p z hp hz=>(h.2 j p z hp hz).zc⟩
def FilM (wx:World) (g n i:Nat) (F:Nat→Int) (k:Nat):Prop:=∃ps,Arr wx g ps∧ps.length=n∧∀(j:Nat) (p:Value×Value),j<i→ps[j]?=some p→Zm 0 wx (.agg #[p.1,p.2]) (F j) k
theorem FilM.start {w:World} {g n:Nat} (h:Arr w g (List.replicate n zAF)) (F:Nat→Int) (k:Nat):FilM w g n 0 F k:=⟨_,h,by simp,fun j p hj=>by omega⟩
theorem FilM.step {w w':World} {g n i:Nat} {F:Nat→Int} {k:Nat} (h:FilM w g n i F k) (hb:Below w.heap.size w w'):FilM w' g n i F k:=by
 obtain ⟨ps,h1,h2,h3⟩:=h;exact ⟨ps,h1.step hb,h2,fun j p hj hp=>(h3 j p hj hp).now hb⟩
theorem FilM.put {w:World} {g n i:Nat} {F:Nat→Int} {k:Nat} {x y:Value} (h:FilM w g n i F k) (hi:i<n) (hz:Zm 0 w (.agg #[x,y]) (F i) k):FilM ((w.setCell ⟨g,i*2,none⟩ x).setCell ⟨g,i*2+1,none⟩ y) g n (i+1) F k:=by
 obtain ⟨ps,h1,h2,h3⟩:=h;have ht:Ty 41 w ((w.setCell ⟨g,i*2,none⟩ x).setCell ⟨g,i*2+1,none⟩ y):=(Ty.set h1.1).trans (Ty.set (h1.1.set _ _));refine ⟨ps.set i (x,y),h1.put (by omega) hz.zi.isI,by simpa using h2,fun j p hj hp=>?_⟩
 by_cases q:j=i
 ·subst q
  rw [List.getElem?_set_self (by omega),Option.some.injEq] at hp;subst hp;exact hz.ty ht (by decide)
 ·rw [List.getElem?_set_ne (by omega)] at hp
  exact (h3 j p (by omega) hp).ty ht (by decide)
theorem FilM.cells {w:World} {g n i j:Nat} {F:Nat→Int} {k:Nat} (h:FilM w g n i F k) (hj:j<n):∃m a l c,w.cell? ⟨g,j*2,none⟩=some (.bool m)∧w.cell? ⟨g,j*2+1,none⟩=some (.slice a l c)∧w.frozen? ⟨g,j*2,none⟩=false∧w.frozen? ⟨g,j*2+1,none⟩=false:=by
 obtain ⟨ps,h1,h2,h3⟩:=h;have hp:ps[j]?=some (ps[j]'(by omega)):=List.getElem?_eq_getElem (by omega);obtain ⟨m,a,l,c,e⟩:=h1.2 _ (List.getElem_mem (l:=ps) (n:=j) (by omega));have q:=h1.at hp;rw [e] at q;exact ⟨m,a,l,c,q.1,q.2,h1.1.fz _,h1.1.fz _⟩
def rowv (c g:Nat):Value:=.slice (some ⟨g,0,none⟩) c c
def Ones (gs:List Nat):Prop:=∀(i j g:Nat),gs[i]?=some g→gs[j]?=some g→i=j
section
variable {P:Program} {ops:Array Oper} {Q:Exit→Act→World→Prop} {md:Region.Mode} {S:World→Prop} {n:Nat}
end



end Go.Proofs.YtefpboopafdhpaaGreat
