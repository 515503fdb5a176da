/-
 QDo11ToRowsI: Do11, Neg11, Add11, In11, Fit11, Ck11, OpenSt11, Rows11, Gr16, Hw18, Tq18, Rc12, DWords, SlInts, Ref, RowsI, joined.
-/
import Derived.Test.YtjjpodnjljfheaaGreatQLm6ToWk9
import Derived.Test.YtjjpodnjljfheaaGreatQFil9ToRowsOf9
import Derived.Test.YtjjpodnjljfheaaGreatQZOnesToZCmp
import Derived.Test.YtjjpodnjljfheaaGreatQZAdd
import Derived.Test.YtjjpodnjljfheaaGreatQLi18ToFo18
import Derived.Handy
import Derived.Test.YtjjpodnjljfheaaGreatRows
import Derived.Test.YtjjpodnjljfheaaGreatQAlikeToShift
import Derived.Test.YtjjpodnjljfheaaGreatQWordsToCarry
import Derived.Lib.SmallJoins
import Derived.Test.YtjjpodnjljfheaaGreatQCols9ToMul9
import Derived.Test.YtjjpodnjljfheaaGreatQHq18ToIv21
import Derived.Test.YtjjpodnjljfheaaGreatQUnit9ToDz12
import Derived.Test.YtjjpodnjljfheaaGreatQTl19ToHs18
import Derived.Test.YtjjpodnjljfheaaGreatQLitsToNow
import Derived.Test.YtjjpodnjljfheaaGreatQProdToByWord

set_option maxRecDepth 100000
set_option maxHeartbeats 6400000
set_option linter.unusedVariables false
set_option linter.unusedSimpArgs false
namespace Go.Proofs.YtjjpodnjljfheaaGreat
open Go.RowKit


structure Rs where
 kind:Int
 i:Int
 j:Int
 z:Int
def Rs.fit (n:Nat) (s:Rs):Prop:=(s.kind=1∧(0≤s.i∧s.i<n)∧(0≤s.j∧s.j<n))∨(s.kind=2∧(0≤s.i∧s.i<n))∨(s.kind=3∧(0≤s.i∧s.i<n)∧(0≤s.j∧s.j<n)∧s.i≠s.j)
instance (n:Nat) (s:Rs):Decidable (s.fit n):=by unfold Rs.fit;infer_instance


open Go.ChangeShapes Go.WideShapes Go.ChangeAt Go.RowKit
instance rsInh:Inhabited Rs:=⟨⟨0,0,0,0⟩⟩
end Go.Proofs.YtjjpodnjljfheaaGreat
namespace Go.Proofs.YtjjpodnjljfheaaGreat
open Go.RowKit
open Go.ChangeShapes Go.WideShapes Go.ChangeAt Go.RowKit
theorem Mx.lt {w:World} {v:Value} {r c:Nat} {zs:List Int} {k:Nat} (h:Mx w v r c zs k):∀z∈zs,(z.natAbs:Int)<pw k:=by
 obtain ⟨a,ps,h1,h2,h3,h4⟩:=h;intro z hz;obtain ⟨j,hj,e⟩:=List.getElem_of_mem hz;exact (h3.2 j _ z (List.getElem?_eq_getElem (by rw [h3.1];exact hj)) (by rw [List.getElem?_eq_getElem hj,e])).lt
end Go.Proofs.YtjjpodnjljfheaaGreat
namespace Go.Proofs.YtjjpodnjljfheaaGreat
theorem Hb18.same {m n r r':Nat} {γ γ':Nat→Nat} {X X' A A':Nat→Nat→Int} (h:Hb18 m n m r id γ X A) (h':Hb18 m n m r' id γ' X' A') (e:∀v,Cm19 m n A v↔Cm19 m n A' v):zG18 m n X=zG18 m n X':=by
 obtain ⟨rfl,hq⟩:=h.ec.one h'.ec h.rd h'.rd fun v=>(h.lat v).trans ((e v).trans (h'.lat v).symm)
 refine ziB fun i j hi hj=>?_
 by_cases q:i<r
 ·exact (hq i q).2 j hj
 ·rw [h.ec.rest i hi (fun a ha=>by simp;omega) j hj,h'.ec.rest i hi (fun a ha=>by simp;omega) j hj]
theorem Hb18.on {m n r:Nat} {γ:Nat→Nat} {X A:Nat→Nat→Int} (h:Hb18 m n m r id γ X A):Hb18 m n m r id γ (en18 n (zG18 m n X)) (en18 n (zG18 m n X)):=by
 have e:∀i j,i<m→j<n→en18 n (zG18 m n X) i j=X i j:=fun i j hi hj=>zlB hi hj
 have rl:∀a,a<r→a<m:=fun a ha=>by have:=h.ec.rl a ha;simpa using this
 refine ⟨⟨h.ec.up,h.ec.cl,h.ec.rl,h.ec.inj,fun a j ha hj=>?_,fun a ha=>?_,fun t ht hn j hj=>?_⟩,fun a b h1 h2 h3=>?_,fun v=>Iff.rfl,fun t _=>rfl⟩
 ·rw [show id a=a from rfl,e a j (rl a ha) (by have:=h.ec.cl a ha;omega)];exact h.ec.zero a j ha hj
 ·rw [show id a=a from rfl,e a _ (rl a ha) (h.ec.cl a ha)];exact h.ec.pos a ha
 ·rw [e t j ht hj];exact h.ec.rest t ht hn j hj
 ·rw [show id a=a from rfl,show id b=b from rfl,e a _ (rl a (by omega)) (h.ec.cl b h3),e b _ (rl b h3) (h.ec.cl b h3)];exact h.rd a b h1 h2 h3
theorem zxE {T t:Nat} (h:((T:Nat):Int)<pw t):∀e,((bd18 T e:Nat):Int)<pw (e*(t+1)+t)
 | 0=>by rw [zyE,Nat.zero_mul,Nat.zero_add];exact h
 | e+1=>by
  have ih:=zxE h e;rw [ziC,show (e+1)*(t+1)+t=(t+1)+(e*(t+1)+t) by rw [Nat.succ_mul];omega,zSB];have h1:((2*T:Nat):Int)<pw (t+1):=by
   have:=zSB t 1;rw [this];have hp:=zwA t;have h2:pw t*2≤pw t*pw 1:=Int.mul_le_mul_of_nonneg_left (by decide) (by omega);omega
  have h3:((2*T*bd18 T e:Nat):Int)=((2*T:Nat):Int)*((bd18 T e:Nat):Int):=by simp
  rw [h3];have q1:((2*T:Nat):Int)*((bd18 T e:Nat):Int)≤((2*T:Nat):Int)*pw (e*(t+1)+t):=Int.mul_le_mul_of_nonneg_left (by omega) (by omega);exact Int.lt_of_le_of_lt q1 (Int.mul_lt_mul_of_pos_right h1 (by have:=zwA (e*(t+1)+t);omega))
theorem zOJ {Y k:Nat} (h:((Y:Nat):Int)<pw k):((64*(64*Y) ^ 64:Nat):Int)<pw (64*k+65):=by
 have h1:((64*Y:Nat):Int)<pw (k+1):=by
  rw [zSB];have hp:=zwA k;have h2:pw k*64≤pw k*pw 1:=Int.mul_le_mul_of_nonneg_left (by decide) (by omega);omega
 have h2:∀e,(((64*Y) ^ e:Nat):Int)≤pw ((k+1)*e):=by
  intro e
  induction e with
  | zero=>simp [pw]
  | succ e ih =>
   rw [Nat.pow_succ,Nat.mul_succ,zSB];have h3:(((64*Y) ^ e*(64*Y):Nat):Int)=(((64*Y) ^ e:Nat):Int)*((64*Y:Nat):Int):=by simp
   rw [h3];exact Int.mul_le_mul ih (by omega) (by omega) (by have:=zwA ((k+1)*e);omega)
 have h3:=h2 64;have e:64*k+65=(k+1)*64+1:=by omega
 rw [e,zSB];have h4:((64*(64*Y) ^ 64:Nat):Int)=64*(((64*Y) ^ 64:Nat):Int):=by simp
 rw [h4];have hp:=zwA ((k+1)*64);have h5:pw ((k+1)*64)*65≤pw ((k+1)*64)*pw 1:=Int.mul_le_mul_of_nonneg_left (by decide) (by omega);omega
theorem zqH {m n k:Nat} {zs:List Int} (hn:n≤64) (hz:zs.length=m*n) (hb:∀z∈zs,(z.natAbs:Int)<pw k) (hk:1≤k):∃T,Tb18 m n (en18 n zs) T∧((T:Nat):Int)<pw (64*k+65):=by
 have hp1:(1:Int)<pw k:=by
  obtain ⟨d,rfl⟩:∃d,k=d+1:=⟨k-1,by omega⟩
  rw [zSB];have hp:=zwA d;have:1*pw 1≤pw d*pw 1:=Int.mul_le_mul_of_nonneg_right (by omega) (by decide);have:(1:Int)<pw 1:=by decide
  omega
 refine ⟨64*(64*(pw k-1).toNat) ^ 64,tb18 hn (by omega) (fun t j ht hj=>?_),zOJ (by omega)⟩;have hl:=zQE ht hj;have e:en18 n zs t j=zs[t*n+j]'(by omega):=by unfold en18;simp [show t*n+j<zs.length by omega]
 have:=hb _ (List.getElem_mem (l:=zs) (n:=t*n+j) (by omega));rw [e];omega
theorem Iv21.full {m n R:Nat} {γ:Nat→Nat} {X V A:Nat→Nat→Int} (h:Hb18 m (n+m) m R id γ X A) (hv:Iv21 m n X V):R=m:=by
 have h1:R≤m:=h.ec.rows21;rcases Nat.lt_or_ge R m with q | q
 ·have h2:=hv R R q q
  rw [zbC (f:=fun k=>X R (n+k)*V R k) fun k hk=>by
   rw [h.ec.rest R q (fun a ha=>by simp only [id];omega) (n+k) (by omega),Int.zero_mul]] at h2
  simp [dlz] at h2
 ·omega
theorem Hb18.front {m n R:Nat} {γ:Nat→Nat} {X A B:Nat→Nat→Int} (h:Hb18 m (n+m) m R id γ X A) (hA:∀i j,i<m→j<n→A i j=B i j) :
  ∃q,q≤R∧Hb18 m n m q id γ (fun t j=>if t<m then X t j else B t j) B∧∀a,q≤a→a<R→n≤γ a:=by
 obtain ⟨q,h1,h2,h3,h4⟩:=h.ec.front21 h.rd (show n≤n+m by omega);have hRm:R≤m:=h.ec.rows21;refine ⟨q,h1,⟨⟨h2.up,h2.cl,h2.rl,h2.inj,fun a j ha hj=>?_,fun a ha=>?_,fun t ht hn j hj=>?_⟩,fun a b g1 g2 g3=>?_,fun v=>?_,fun t ht=>?_⟩,fun a ha haR=>?_⟩
 ·show (if a<m then X a j else B a j)=0
  rw [if_pos (by omega)];exact h2.zero a j ha hj
 ·show 0<(if a<m then X a (γ a) else B a (γ a))
  rw [if_pos (by omega)];exact h2.pos a ha
 ·show (if t<m then X t j else B t j)=0
  rw [if_pos ht];exact h2.rest t ht hn j hj
 ·show 0≤(if a<m then X a (γ b) else B a (γ b))∧(if a<m then X a (γ b) else B a (γ b))<(if b<m then X b (γ b) else B b (γ b))
  rw [if_pos (by omega),if_pos (by omega)];exact h3 a b g1 g2 g3
 ·constructor
  ·rintro ⟨z,hz⟩
   obtain ⟨y,hy⟩:=(h.lat fun j=>su m fun i=>z i*X i j).1 ⟨z,fun j hj=>rfl⟩;refine ⟨y,fun j hj=>?_⟩;have h':su m (fun i=>z i*X i j)=su m fun i=>y i*A i j:=hy j (by omega)
   rw [hz j hj,zJA (g:=fun i=>z i*X i j) fun i hi=>by simp [hi],h'];exact zJA fun i hi=>by rw [hA i j hi hj]
  ·rintro ⟨z,hz⟩
   obtain ⟨y,hy⟩:=(h.lat fun j=>su m fun i=>z i*A i j).2 ⟨z,fun j hj=>rfl⟩;refine ⟨y,fun j hj=>?_⟩;have h':su m (fun i=>z i*A i j)=su m fun i=>y i*X i j:=hy j (by omega)
   rw [hz j hj,zJA (g:=fun i=>z i*A i j) fun i hi=>by rw [hA i j hi hj],h'];exact zJA fun i hi=>by simp [hi]
 ·funext j
  rw [if_neg (by omega)]
 ·rcases Nat.lt_or_ge (γ a) n with p | p
  ·have:=h4 a ha (by omega) (γ a) p
   have:=h.ec.pos a haR;simp only [id] at this;omega
  ·exact p
theorem Hb18.behind {m n q:Nat} {γ:Nat→Nat} {X A:Nat→Nat→Int} (h:Hb18 m (n+m) m m id γ X A) (hq:q≤m) (hg:∀a,q≤a→a<m→n≤γ a) :
  Ec18 m (m-q) (m-q) id (fun a=>γ (q+a)-n) (fun i k=>X (q+i) (n+k))∧Rd18 0 (m-q) id (fun a=>γ (q+a)-n) (fun i k=>X (q+i) (n+k))∧∀i b,i<q→b<m-q→0≤X i (n+(γ (q+b)-n))∧X i (n+(γ (q+b)-n))<X (q+b) (n+(γ (q+b)-n)):=by
 have e:∀b,b<m-q→n+(γ (q+b)-n)=γ (q+b):=fun b hb=>by have:=hg (q+b) (by omega) (by omega);omega
 refine ⟨⟨fun a b hab hb=>?_,fun a ha=>?_,fun a ha=>by simpa using ha,fun a b _ _ e=>e,fun a j ha hj=>?_,fun a ha=>?_,fun t ht hn j hj=>absurd rfl (hn t ht)⟩,fun a b h1 h2 h3=>?_,fun i b hi hb=>?_⟩
 ·have:=h.ec.up (q+a) (q+b) (by omega) (by omega)
  have:=e a (by omega);have:=e b hb
  show γ (q+a)-n<γ (q+b)-n
  omega
 ·have:=h.ec.cl (q+a) (by omega)
  show γ (q+a)-n<m
  omega
 ·have hj':j<γ (q+a)-n:=hj
  exact h.ec.zero (q+a) (n+j) (by omega) (by omega)
 ·show 0<X (q+a) (n+(γ (q+a)-n))
  rw [e a ha];exact h.ec.pos (q+a) (by omega)
 ·show 0≤X (q+a) (n+(γ (q+b)-n))∧X (q+a) (n+(γ (q+b)-n))<X (q+b) (n+(γ (q+b)-n))
  rw [e b h3];exact h.rd (q+a) (q+b) (Nat.zero_le _) (by omega) (by omega)
 ·rw [e b hb];exact h.rd i (q+b) (Nat.zero_le _) (by omega) (by omega)
theorem zgD {m n lo c:Nat} {F:Nat→Nat→Int} (h:lo+c≤m):((zG18 m n F).drop (lo*n)).take (c*n)=zG18 c n fun i j=>F (lo+i) j:=by
 have hm:(lo+c)*n≤m*n:=Nat.mul_le_mul_right n h;rw [Nat.add_mul] at hm;refine List.ext_getElem? fun t=>?_
 rcases Nat.lt_or_ge t (c*n) with q | q
 ·rcases Nat.eq_zero_or_pos n with q0 | q0
  ·subst q0;simp at q
  ·have e1:(lo*n+t) / n=lo+t / n:=by rw [Nat.mul_comm,Nat.mul_add_div q0]
   have e2:(lo*n+t) % n=t % n:=by rw [Nat.mul_comm,Nat.mul_add_mod]
   rw [List.getElem?_take,if_pos q,List.getElem?_drop];unfold zG18;rw [List.getElem?_map,List.getElem?_map,List.getElem?_range (by omega),List.getElem?_range q];simp [e1,e2]
 ·rw [List.getElem?_eq_none (by simp;omega),List.getElem?_eq_none (by rw [zMB];omega)]
open Go.RowKit
def RCk (w:World) (e:Ending) (w':World):Prop:=e=.returned (.int .i64 0)∧Below w.heap.size w w'
theorem rcheck12 {w:World} {r c:Nat} {a:Option Addr} {l cap:Nat} (hr:r≤64) (hc:c≤64) (hl:l=r*c):Calls Tryz.prog 31 #[matv r c (.slice a l cap)] w (RCk w):=by
 obtain ⟨W0,hW⟩:∃W0,w.alloc (matO r c (.slice a l cap))=W0:=⟨_,rfl⟩
 obtain ⟨b0,sz0⟩:=alo1 w (matO r c (.slice a l cap));rw [hW] at b0 sz0;have P1:Hid (Cel W0 w.heap.size 24 (matc r c (.slice a l cap))):=by unfold Hid;rw [←hW];exact Cel.new w _ _
 have x0:=P1.out.at (i:=0) rfl;have x1:=P1.out.at (i:=1) rfl;have x2:=P1.out.at (i:=2) rfl;rw [←hW] at x0 x1 x2;have G0:=hid b0;have EW:=hid hW;clear b0 sz0 hW P1;have h1:¬(r:Int)<0:=by omega
 have h2:¬(64:Int)<(r:Int):=by omega
 have h3:¬(c:Int)<0:=by omega
 have h4:¬(64:Int)<(c:Int):=by omega
 have hw:=zJB (i:=r) (c:=c) hr hc;rw [←hl] at hw;have hw2:=hw;rw [IntKind.wrap_i64] at hw2;have q0:((l:Int) != (l:Int))=false:=by simp
 clear hl;go_enter Tryz.func31,Tryz.ntmps31;go_wp2;rw [EW.out];go_ret;exact ⟨rfl,G0.out⟩
theorem ziG {w:World} {v:Value} {r c:Nat} {zs:List Int} {K0:Nat} (h:Mx w v r c zs K0):∀w',Below w.heap.size w w'→Calls Tryz.prog 31 #[v] w' (RCk w'):=fun w' hb=>by
 obtain ⟨a,cap,rfl,h1,h2⟩:=h.form;exact rcheck12 h1 h2 rfl
theorem rboth12 {w:World} {va vb:Value} {r m r' c:Nat} {xs ys:List Int} {k l:Nat} (ha:Mx w va r m xs k) (hb:Mx w vb r' c ys l):Calls Tryz.prog 28 #[va,vb] w (RCk w):=by
 have CA:=hid (ziG ha);have CB:=hid (ziG hb);obtain ⟨a1,cap1,rfl,-,-⟩:=ha.form;obtain ⟨a2,cap2,rfl,-,-⟩:=hb.form;obtain ⟨n1,hn1⟩:∃n1,r*m=n1:=⟨_,rfl⟩
 obtain ⟨n2,hn2⟩:∃n2,r'*c=n2:=⟨_,rfl⟩
 rw [hn1] at CA ⊢;rw [hn2] at CB ⊢;clear ha hb hn1 hn2;obtain ⟨W0,hW⟩:∃W0,(w.alloc (matO r m (.slice a1 n1 cap1))).alloc (matO r' c (.slice a2 n2 cap2))=W0:=⟨_,rfl⟩
 have b0:Below w.heap.size w W0:=by rw [←hW];exact ((Below.refl _ _).alloc (Nat.le_refl _) _).alloc (by simp) _
 have PA:Hid (Cel W0 w.heap.size 24 (matc r m (.slice a1 n1 cap1))):=by
  unfold Hid;rw [←hW];exact (Cel.new w _ _).step ((Below.refl _ _).alloc (Nat.le_refl _) _)
 have PB:Hid (Cel W0 (w.heap.size+1) 24 (matc r' c (.slice a2 n2 cap2))):=by
  unfold Hid;rw [←hW];have:=Cel.new (w.alloc (matO r m (.slice a1 n1 cap1))) 24 (matc r' c (.slice a2 n2 cap2))
  simpa using this
 have x0:=PA.out.at (i:=0) rfl;have x1:=PA.out.at (i:=1) rfl;have x2:=PA.out.at (i:=2) rfl;rw [←hW] at x0 x1 x2;have G0:=hid b0;have EW:=hid hW;clear b0 hW;go_enter Tryz.func28,Tryz.ntmps28;go_wp2_with fail;rw [EW.out];refine (CA.out _ G0.out).mono ?_;rintro e w1 ⟨rfl,b1⟩;have G1:=hid (below_step G0.out b1);have PB1:=hid (PB.out.step b1);have y0:=PB1.out.at (i:=0) rfl;have y1:=PB1.out.at (i:=1) rfl;have y2:=PB1.out.at (i:=2) rfl;clear x0 x1 x2 EW PA PB G0 b1;go_wp2_with fail;refine (CB.out _ G1.out).mono ?_;rintro e w2 ⟨rfl,b2⟩;have G2:=hid (below_step G1.out b2);clear y0 y1 y2 PB1 G1 b2;go_wp2;go_ret;exact ⟨rfl,G2.out⟩
def zvF (w:World) (r c n:Nat) (e:Ending) (w':World):Prop:=∃g,e=.returned (matv r c (.slice (some ⟨g,0,none⟩) n n))∧w.heap.size≤g∧Arr w' g (List.replicate n zGB)∧Below w.heap.size w w'
theorem zcF {w:World} {r c n:Nat} (hr:r≤64) (hc:c≤64) (hn:r*c=n):Calls Tryz.prog 29 #[.int .i64 (r:Int),.int .i64 (c:Int)] w (zvF w r c n):=by
 obtain ⟨W0,hW⟩:∃W0,w.alloc mbox=W0:=⟨_,rfl⟩
 obtain ⟨b0,sz0⟩:=alo1 w mbox;rw [hW] at b0 sz0;have P4:=hid (zZB hW);have hm0:=zJB (i:=r) (c:=c) hr hc;have hrc:r*c≤64*64:=Nat.mul_le_mul hr hc;rw [hn] at hm0 hrc;have hm2:=hm0;rw [IntKind.wrap_i64] at hm2;have G0:=hid b0;have EW:=hid hW;have SZ:=hid sz0;clear b0 hW sz0 hn;go_enter Tryz.func29,Tryz.ntmps29;go_wp2_with (at_make;rw [EW.out];refine zhA _ rfl _ _ rfl _ _ n n rfl rfl rfl rfl (Nat.le_refl _) (by omega) ?_)
 intro w2 hrow hb2 hsz2;have PR:=hid (P4.out.step hb2);have r0:=PR.out.at (i:=0) rfl;have r1:=PR.out.at (i:=1) rfl;have r2:=PR.out.at (i:=2) rfl;have f0:=PR.out.fz 0;have f1:=PR.out.fz 1;have f2:=PR.out.fz 2;have FIN:Hid (zvF w r c n (.returned (.agg #[.int .i64 (r:Int),.int .i64 (c:Int),.slice (some ⟨W0.heap.size,0,none⟩) n n])) (put3 w2 w.heap.size (.int .i64 (r:Int)) (.int .i64 (c:Int)) (.slice (some ⟨W0.heap.size,0,none⟩) n n))) :=
  ⟨_,rfl,by have:=SZ.out;omega,hrow.put3 (by have:=SZ.out;omega) _ _ _,zVA (below_step G0.out hb2) (Nat.le_refl _) _ _ _⟩
 have PF:=hid (PR.out.put3 (.int .i64 (r:Int)) (.int .i64 (c:Int)) (.slice (some ⟨W0.heap.size,0,none⟩) n n));clear P4 hrow hb2 hsz2 G0 EW;go_wp2;exact bodyPost_ret (zJG Tryz.results29 PF.out _ (by rfl)) rfl FIN.out
end Go.Proofs.YtjjpodnjljfheaaGreat
namespace Go.Proofs.YtjjpodnjljfheaaGreat
def dwB:Int:=65536
def IsD (x:Int):Prop:=0≤x∧x<dwB
def DF (xs:List Int):Prop:=∀x∈xs,IsD x
def dval:List Int→Int
 | []=>0
 | x :: r=>x+dwB*dval r
def dwid:List Int→Nat
 | []=>0
 | x :: r=>if dwid r=0 then (if x=0 then 0 else 1) else dwid r+1
def dpw:Nat→Int
 | 0=>1
 | n+1=>dwB*dpw n
def zCE (xs:List Int):Prop:=DF xs∧dwid xs=xs.length
theorem DF.nil:DF []:=fun x h=>by cases h
theorem DF.cons {x:Int} {r:List Int} (hx:IsD x) (hr:DF r):DF (x :: r):=by
 intro y hy;rcases List.mem_cons.1 hy with rfl | h
 ·exact hx
 ·exact hr y h
theorem DF.head {x:Int} {r:List Int} (h:DF (x :: r)):IsD x:=h x (by simp)
theorem DF.tail {x:Int} {r:List Int} (h:DF (x :: r)):DF r:=fun y hy=>h y (by simp [hy])
theorem DF.take {xs:List Int} (h:DF xs) (n:Nat):DF (xs.take n):=fun x hx=>h x (List.mem_of_mem_take hx)
theorem DF.append {xs ys:List Int} (h:DF xs) (k:DF ys):DF (xs ++ ys):=by
 intro x hx;rcases List.mem_append.1 hx with q | q
 ·exact h x q
 ·exact k x q
theorem DF.get {xs:List Int} (h:DF xs) {i:Nat} (hi:i<xs.length):IsD xs[i]:=h _ (List.getElem_mem hi)
theorem DF.set {xs:List Int} (h:DF xs) (i:Nat) {x:Int} (hx:IsD x):DF (xs.set i x):=by
 intro y hy;rcases List.mem_or_eq_of_mem_set hy with q | rfl
 ·exact h y q
 ·exact hx
theorem zmB:∀ {xs:List Int},DF xs→0≤dval xs
 | [],_=>by simp [dval]
 | x :: r,h=>by
  have h1:=h.head;have h2:=zmB h.tail;unfold IsD dwB at h1;unfold dval dwB;omega
theorem zHD:∀xs:List Int,dwid xs≤xs.length
 | []=>by simp [dwid]
 | x :: r=>by
  have:=zHD r;unfold dwid;split
  ·split <;> simp
  ·simp;omega
theorem zOC:∀xs:List Int,dwid xs=0→dval xs=0
 | [],_=>rfl
 | x :: r,h=>by
  unfold dwid at h
  split at h
  ·rename_i h0
   have:=zOC r h0
   split at h
   ·rename_i hx;simp [dval,hx,this]
   ·cases h
  ·cases h
theorem zeC:∀ {xs:List Int},DF xs→0<dwid xs→0<dval xs
 | [],_,h=>by simp [dwid] at h
 | x :: r,hw,h=>by
  have h1:=hw.head;have h2:=zmB hw.tail;unfold dwid at h;unfold IsD dwB at h1
  split at h
  ·split at h
   ·cases h
   ·unfold dval dwB;omega
  ·have:=zeC hw.tail (by omega)
   unfold dval dwB;omega
theorem zPC:∀ {xs ys:List Int},DF xs→DF ys→dwid xs<dwid ys→dval xs<dval ys
 | [],ys,_,hy,h=>by
  have:=zeC hy (by simp [dwid] at h;exact h)
  simpa [dval] using this
 | x :: xs,[],_,_,h=>by simp [dwid] at h
 | x :: xs,y :: ys,hx,hy,h=>by
  have hx1:=hx.head;have hy1:=hy.head;have vy:=zmB hy.tail
  by_cases e:dwid ys=0
  ·have:dwid (y :: ys)≤1:=by unfold dwid;rw [if_pos e];split <;> simp
   have h0:dwid (x :: xs)=0:=by omega
   rw [zOC _ h0];exact zeC hy (by omega)
  ·have e1:dwid (y :: ys)=dwid ys+1:=by rw [dwid,if_neg e]
   have e2:dwid xs<dwid ys:=by
    by_cases q:dwid xs=0
    ·omega
    ·have:dwid (x :: xs)=dwid xs+1:=by rw [dwid,if_neg q]
     omega
   have:=zPC hx.tail hy.tail e2;unfold IsD dwB at hx1 hy1;unfold dval dwB;omega
def dlst (xs:List Int):List Int:=xs.take (dwid xs)
theorem zjA (xs:List Int):(dlst xs).length=dwid xs:=by unfold dlst;have:=zHD xs;simp;omega
theorem zSG (x:Int) (r:List Int):dlst (x :: r)=if dwid r=0 then (if x=0 then [] else [x]) else x :: dlst r:=by
 have e:dwid (x :: r)=if dwid r=0 then (if x=0 then 0 else 1) else dwid r+1:=by rw [dwid]
 unfold dlst;rw [e]
 split
 ·split <;> simp
 ·simp
theorem zLE:∀xs:List Int,dval (dlst xs)=dval xs
 | []=>rfl
 | x :: r=>by
  rw [zSG]
  split
  ·rename_i h0
   have:=zOC r h0
   split
   ·rename_i hx;simp [dval,hx,this]
   ·simp [dval,this]
  ·simp [dval,zLE r]
theorem zXH:∀xs:List Int,dwid (dlst xs)=dwid xs
 | []=>rfl
 | x :: r=>by
  rw [zSG,dwid]
  split
  ·split
   ·rfl
   ·rename_i hx;simp [dwid,hx]
  ·rename_i h0
   rw [dwid,zXH r,if_neg h0]
theorem dcanon_lst {xs:List Int} (h:DF xs):zCE (dlst xs):=⟨h.take _,by rw [zXH,zjA]⟩
theorem zqE:∀ {xs:List Int} {n:Nat},n≤xs.length→(∀j (h:j<xs.length),n≤j→xs[j]=0)→(0<n→∀h':n-1<xs.length,xs[n-1]≠0)→dwid xs=n
 | [],n,hn,_,_=>by simp at hn;simp [dwid,hn]
 | x :: r,0,_,hz,_=>by
  have h0:dwid r=0:=zqE (Nat.zero_le _) (fun j h _=>by have:=hz (j+1) (by simpa using h) (by omega);simpa using this) (fun h=>by omega);have hx:x=0:=hz 0 (by simp) (by omega);simp [dwid,h0,hx]
 | x :: r,1,_,hz,ht=>by
  have h0:dwid r=0:=zqE (Nat.zero_le _) (fun j h _=>by have:=hz (j+1) (by simpa using h) (by omega);simpa using this) (fun h=>by omega);have hx:x≠0:=by simpa using ht (by omega) (by simp)
  simp [dwid,h0,hx]
 | x :: r,n+2,hn,hz,ht=>by
  have h0:dwid r=n+1:=by
   refine zqE (by simpa using hn) (fun j h hj=>?_) (fun _ h'=>?_)
   ·have:=hz (j+1) (by simpa using h) (by omega);simpa using this
   ·have:=ht (by omega) (by simpa using h');simpa using this
  simp [dwid,h0]
theorem zPF:∀ {xs:List Int},DF xs→dval xs<dpw xs.length
 | [],_=>by simp [dval,dpw]
 | x :: r,h=>by
  have h1:=h.head;have h2:=zPF h.tail;unfold IsD dwB at h1;simp only [List.length_cons];unfold dval dpw dwB;omega
theorem zoG:∀n,0<dpw n
 | 0=>by simp [dpw]
 | n+1=>by have:=zoG n;unfold dpw dwB;omega
theorem znB:∀(xs ys:List Int),dval (xs ++ ys)=dval xs+dpw xs.length*dval ys
 | [],ys=>by simp [dval,dpw]
 | x :: r,ys=>by
  simp only [List.cons_append,List.length_cons,dval,dpw,znB r ys];rw [Int.mul_add,Int.mul_assoc];omega
theorem zQC:∀(xs:List Int) (i:Nat) (z:Int) (h:i<xs.length),dval (xs.set i z)=dval xs+(z-xs[i])*dpw i
 | [],i,z,h=>by simp at h
 | x :: r,0,z,_=>by simp [dval,dpw];omega
 | x :: r,i+1,z,h=>by
  have:=zQC r i z (by simpa using h);simp only [List.set_cons_succ,List.getElem_cons_succ,dval,dpw,this];have h':i<r.length:=by simpa using h
  generalize hq:z-r[i]'h'=q;rw [Int.mul_add,←Int.mul_assoc,←Int.mul_assoc,Int.mul_comm dwB q];omega
theorem zyB (ys:List Int) (i:Nat) (h:i<ys.length):dval (ys.take (i+1))=dval (ys.take i)+ys[i]*dpw i:=by
 rw [List.take_succ_eq_append_getElem h,znB];simp [dval,Int.mul_comm,Nat.min_eq_left (Nat.le_of_lt h)]
theorem zPI:∀ {xs ys:List Int} {j:Nat},DF xs→DF ys→(hl:xs.length=ys.length)→(h:j<xs.length)→xs.drop (j+1)=ys.drop (j+1)→xs[j]≠ys[j]'(by omega)→cmpI (dval xs) (dval ys)=cmpI xs[j] (ys[j]'(by omega))
 | [],_,_,_,_,_,h,_,_=>by simp at h
 | x :: xs,[],_,_,_,hl,_,_,_=>by simp at hl
 | x :: xs,y :: ys,0,hx,hy,_,_,hd,hne=>by
  simp only [List.drop_succ_cons,List.drop_zero] at hd;simp only [List.getElem_cons_zero] at hne ⊢;have hx1:=hx.head;have hy1:=hy.head;unfold IsD dwB at hx1 hy1;subst hd;simp only [cmpI,dval];have e1:(x+dwB*dval xs<y+dwB*dval xs)↔x<y:=by omega
  have e2:(y+dwB*dval xs<x+dwB*dval xs)↔y<x:=by omega
  simp only [e1,e2]
 | x :: xs,y :: ys,j+1,hx,hy,hl,h,hd,hne=>by
  simp only [List.drop_succ_cons] at hd;simp only [List.getElem_cons_succ] at hne ⊢;have ih:=zPI hx.tail hy.tail (by simpa using hl) (by simpa using h) hd hne;have hx1:=hx.head;have hy1:=hy.head;unfold IsD dwB at hx1 hy1;rw [←ih];have hne':dval xs≠dval ys:=by
   intro e;rw [e,cmpI_self] at ih;exact hne (cmpI_zero ih.symm)
  rcases Int.lt_or_gt_of_ne hne' with q | q
  ·rw [zpA q,zpA (by unfold dval dwB;omega)]
  ·rw [zqA q,zqA (by unfold dval dwB;omega)]
theorem dcmp_widths {xs ys:List Int} (hx:DF xs) (hy:DF ys) (h:dwid xs≠dwid ys):cmpI (dval xs) (dval ys)=cmpI (dwid xs) (dwid ys):=by
 rcases Nat.lt_or_gt_of_ne h with q | q
 ·rw [zpA (zPC hx hy q),zpA (by omega)]
 ·rw [zqA (zPC hy hx q),zqA (by omega)]
theorem dlst_get {xs:List Int} {j:Nat} (h:j<dwid xs):(dlst xs)[j]'(by rw [zjA];exact h)=xs[j]'(by have:=zHD xs;omega):=by simp [dlst]
theorem dcarry_step {xs zs:List Int} {ysT ysT' p y s d c:Int} {i:Nat} (hi:i<zs.length) (hv:dval zs+dpw i*c=dval xs+ysT) (hT:ysT'=ysT+y*dpw i)
  (hs:s+dwB*d=zs[i]+y+c) (hp:p=dpw (i+1)):dval (zs.set i s)+p*d=dval xs+ysT':=by
 subst hp;rw [zQC zs i s hi,hT];generalize hz:zs[i]=z at *;have e:s=z+y+c-dwB*d:=by omega
 subst e;simp only [dpw,Int.sub_mul,Int.add_mul,Int.mul_assoc,Int.mul_comm c (dpw i),Int.mul_comm d (dpw i)];omega
theorem dborrow_step {xs zs:List Int} {ysT ysT' p y s d c:Int} {i:Nat} (hi:i<zs.length) (hv:dval zs-dpw i*c=dval xs-ysT) (hT:ysT'=ysT+y*dpw i)
  (hs:s-dwB*d=zs[i] - y-c) (hp:p=dpw (i+1)):dval (zs.set i s)-p*d=dval xs-ysT':=by
 subst hp;rw [zQC zs i s hi,hT];generalize hz:zs[i]=z at *;have e:s=z-y-c+dwB*d:=by omega
 subst e;simp only [dpw,Int.sub_mul,Int.add_mul,Int.mul_assoc,Int.mul_comm c (dpw i),Int.mul_comm d (dpw i)];omega
theorem zWH:∀ {xs:List Int} {n:Nat},dwid xs=n+1→∃h:n<xs.length,xs[n]≠0
 | [],n,h=>by simp [dwid] at h
 | x :: r,n,h=>by
  unfold dwid at h
  split at h
  ·split at h
   ·cases h
   ·have:n=0:=by omega
    subst this;exact ⟨by simp,by simpa⟩
  ·rename_i hr
   obtain ⟨m,hm⟩:∃m,dwid r=m+1:=⟨dwid r-1,by omega⟩
   obtain ⟨h1,h2⟩:=zWH hm;have:n=m+1:=by omega
   subst this;exact ⟨by simpa using h1,by simpa using h2⟩
open Go.RowKit
def SlI (B:Nat) (w:World) (v:Value) (ps:List Int):Prop :=
 (∀p∈ps,-9223372036854775808≤p∧p≤9223372036854775807)∧∃a cap,v=.slice a ps.length cap∧ps.length≤cap∧cap≤35184372088832 ∧
  (ps=[]∨∃b off,a=some ⟨b,off,none⟩∧b<B∧∀j (h:j<ps.length),w.cell? ⟨b,off+j,none⟩=some (.int .i64 ps[j]))
theorem SlI.now {w w':World} {v:Value} {xs:List Int} (h:SlI w.heap.size w v xs) (hb:Below w.heap.size w w'):SlI w'.heap.size w' v xs:=by
 obtain ⟨h1,a,cap,h2,h3,h4,h5⟩:=h;refine ⟨h1,a,cap,h2,h3,h4,?_⟩;rcases h5 with h5 | ⟨b,off,h6,h7,h8⟩
 ·exact .inl h5
 ·exact .inr ⟨b,off,h6,Nat.lt_of_lt_of_le h7 hb.size,fun j hj=>(hb.cell (p:=⟨b,off+j,none⟩) h7).trans (h8 j hj)⟩
theorem SlI.below {B:Nat} {w w':World} {v:Value} {xs:List Int} (h:SlI B w v xs) (hb:Below B w w'):SlI B w' v xs:=by
 obtain ⟨h1,a,cap,h2,h3,h4,h5⟩:=h;refine ⟨h1,a,cap,h2,h3,h4,?_⟩;rcases h5 with h5 | ⟨b,off,h6,h7,h8⟩
 ·exact .inl h5
 ·exact .inr ⟨b,off,h6,h7,fun j hj=>(hb.cell (p:=⟨b,off+j,none⟩) h7).trans (h8 j hj)⟩
theorem zAH {B:Nat} {w:World} {v:Value} {xs:List Int} (h:SlI B w v xs) :
  Calls Tryz.prog 122 #[v] w fun e w'=>∃r,e=.returned r∧SlI B w r (dlst xs)∧w'=w:=by
 have hs:=h;obtain ⟨hw,a,cap,rfl,hlc,hcm,hm⟩:=h;have HW:Hid (∀n:Nat,n≤xs.length→(∀j (h:j<xs.length),n≤j→xs[j]=0)→(0<n→∀h':n-1<xs.length,xs[n-1]≠0)→dwid xs=n):=fun n h1 h2 h3=>zqE h1 h2 h3
 have HF:Hid (∀n,dwid xs=n→SlI B w (.slice a n cap) (dlst xs)):=fun n hn=>by
  subst hn;have l:=zHD xs;refine ⟨fun p hp=>hw p (List.mem_of_mem_take hp),a,cap,by rw [zjA],by rw [zjA];omega,hcm,?_⟩;rcases hm with rfl | ⟨b,off,h1,h2,h3⟩
  ·exact .inl rfl
  ·refine .inr ⟨b,off,h1,h2,fun j hj=>?_⟩
   rw [zjA] at hj;rw [h3 j (by omega),dlst_get hj]
 have HM:=hid hm;clear hs;go_enter Tryz.func122,Tryz.ntmps122;go_wp2
 go_loop [3] (fun i=>∃n:Nat,n≤xs.length∧i=.int .i64 n∧∀j (h:j<xs.length),n≤j→xs[j]=0) (fun i=>(intOf i).toNat)
 case atStart=>exact ⟨xs.length,Nat.le_refl _,rfl,fun j h h'=>by omega⟩
 case round =>
  obtain ⟨n,hn,rfl,hz⟩:=hrel;have HZ:=hid hz;clear hz hm
  by_cases h0:n=0
  ·subst h0
   go_wp2;go_ret;exact ⟨_,rfl,HF.out 0 (HW.out 0 (by omega) HZ.out (by omega)),rfl⟩
  ·obtain ⟨k,rfl⟩:∃k,n=k+1:=⟨n-1,by omega⟩
   rcases HM.out with rfl | ⟨b,off,rfl,hb,hc⟩
   ·simp at hn
   ·have hk:k<xs.length:=by omega
    have hck:=hc k hk;obtain ⟨x,hx⟩:∃x,x=xs[k]:=⟨_,rfl⟩
    rw [←hx] at hck;have HX:Hid (x=xs[k]):=hx;clear hx hc h0
    by_cases hx0:x=0
    ·have ht:(x == 0)=true:=by simp [hx0]
     go_wp2;go_round
     case rel =>
      refine ⟨k,by omega,rfl,fun j h hj=>?_⟩
      by_cases e:j=k
      ·subst e;rw [←HX.out];exact hx0
      ·exact HZ.out j h (by omega)
     case measure=>simp [intOf]
    ·have ht:(x == 0)=false:=by simp [hx0]
     go_wp2;go_ret;exact ⟨_,rfl,HF.out (k+1) (HW.out (k+1) hn HZ.out (fun _ h'=>by have:=HX.out;simp at h' ⊢;rw [←this];exact hx0)),rfl⟩
theorem zRI {B:Nat} {w:World} {v:Value} {xs:List Int} (h:SlI B w v xs) (k:Nat) :
  Calls Tryz.prog 103 #[v,.int .i64 (k:Int)] w fun e w'=>e=.returned (.int .i64 (xs.getD k 0))∧w'=w:=by
 obtain ⟨hw,a,cap,rfl,hlc,hcm,hm⟩:=h
 by_cases hk:k<xs.length
 ·rcases hm with rfl | ⟨b,off,rfl,hb,hc⟩
  ·simp at hk
  have c1:=hc k hk;have e:xs.getD k 0=xs[k]:=by simp [hk]
  rw [e];generalize xs[k]=x at *;clear hc e;go_enter Tryz.func103,Tryz.ntmps103;go_wp2;go_ret;exact ⟨rfl,rfl⟩
 ·have e:xs.getD k 0=0:=by simp [show xs.length≤k by omega]
  rw [e];clear hm e;go_enter Tryz.func103,Tryz.ntmps103;go_wp2;go_ret;exact ⟨rfl,rfl⟩
theorem znG {w wr:World} (h:∃q,wr=w.drewN q) (n:Nat):∃q,wr.drewN n=w.drewN q:=by obtain ⟨q,rfl⟩:=h;exact ⟨q+n,by rw [World.drewN_drewN]⟩
def RowI (w:World) (g:Nat) (L:List Value):Prop:=w.heap[g]?=some (.cells L.toArray 3 (0,0))
theorem RowI.lt {w:World} {g:Nat} {L:List Value} (h:RowI w g L):g<w.heap.size:=(Array.getElem?_eq_some_iff.1 h).1
theorem RowI.cell {w:World} {g:Nat} {L:List Value} (h:RowI w g L) {i:Nat} (hi:i<L.length):w.cell? ⟨g,i,none⟩=some L[i]:=by
 unfold RowI at h;simp [World.cell?,h,hi]
theorem RowI.frozen {w:World} {g:Nat} {L:List Value} (h:RowI w g L) (i:Nat):w.frozen? ⟨g,i,none⟩=false:=by
 unfold RowI at h;simp [World.frozen?,h]
theorem RowI.set {w:World} {g:Nat} {L:List Value} (h:RowI w g L) (i:Nat) (u:Value):RowI (w.setCell ⟨g,i,none⟩ u) g (L.set i u):=by
 unfold RowI at h ⊢;simp [World.setCell,Array.getElem?_modify,h]
theorem RowI.alloc {w:World} {g:Nat} {L:List Value} (h:RowI w g L) (o:Obj):RowI (w.alloc o) g L:=(Below.heap_alloc w o g h.lt).trans h
def wi (xs:List Int):List Value:=xs.map (Value.int .i64)
theorem zhE (xs:List Int):(wi xs).length=xs.length:=by simp [wi]
theorem wi_set (xs:List Int) (r:List Value) (i:Nat) (h:i<xs.length) (z:Int):(wi xs ++ r).set i (.int .i64 z)=wi (xs.set i z) ++ r:=by
 rw [List.set_append_left _ _ (by rw [zhE];exact h),wi,wi,List.map_set]
theorem RowI.num {w:World} {g:Nat} {xs:List Int} {r:List Value} (h:RowI w g (wi xs ++ r)) {i:Nat} (hi:i<xs.length):w.cell? ⟨g,i,none⟩=some (.int .i64 xs[i]):=by
 rw [h.cell (i:=i) (by simp [zhE];omega)];simp [wi,hi]
theorem RowI.setNum {w:World} {g:Nat} {xs:List Int} {r:List Value} (h:RowI w g (wi xs ++ r)) {i:Nat} (hi:i<xs.length) (z:Int):RowI (w.setCell ⟨g,i,none⟩ (.int .i64 z)) g (wi (xs.set i z) ++ r):=by
 rw [←wi_set xs r i hi];exact h.set i _
theorem Tryz.infoI:(Tryz.prog.info? 3).map (fun i=>(i.zero,i.size,i.bytes))=some (some (.int .i64 0),1,8):=by kernel_rfl
theorem madeCells_ints (m:Nat):madeCells (Value.int .i64 0).cells m=(wi (List.replicate m 0)).toArray:=by
 apply Array.ext
 ·simp [size_madeCells,wi]
 ·intro i h1 h2
  simp [madeCells,wi,Value.cells,Nat.mod_one]
theorem zfA (w:World) {ops:Array Oper} {rest:List Oper} {o:Oper} {a:Act} {Q:Exit→Act→World→Prop}
  (hg:o.guard=none) (l c:Operand) (hop:o.op=Op.makeSlice 33 l c)
  (L C:Int) (n m:Nat) (hl:a.eval l=.int .i64 L) (hc:a.eval c=.int .i64 C) (hL:L=(n:Int)) (hC:C=(m:Int)) (hnm:n≤m) (hm:m≤35184372088832)
  (hK:∀w',RowI w' w.heap.size (wi (List.replicate m 0))→Below w.heap.size w w'→Hid (w'.heap.size=w.heap.size+1)→wpList Tryz.prog ops Q rest (a.put o.dst (.slice (some ⟨w.heap.size,0,none⟩) n m)) w') :
  wpList Tryz.prog ops Q (o :: rest) a w:=by
 refine wpList_plain hg fun K hK'=>?_
 obtain ⟨i,hi,hz,hs,hb⟩:=info_parts Tryz.infoI;have hrun:=run_make (P:=Tryz.prog) w 33 3 i (.int .i64 0) Tryz.underlying33 hi hz .i64 .i64 n m (by omega) (by omega) (by rw [hb];omega) (by omega);subst hL;subst hC;rw [hs,Nat.mul_one,Int.toNat_natCast,Int.toNat_natCast,madeCells_ints] at hrun;unfold Oper.wp;simp [execOp,hop,hl,hc,hrun,Result.andThen];refine hK' _ _ (hK _ ?_ ((Below.refl _ _).alloc (Nat.le_refl _) _) ?_)
 ·unfold RowI;exact heap_alloc_new w _
 ·unfold Hid;simp
theorem RowI.sl {w:World} {g:Nat} {xs:List Int} {r:List Value} (h:RowI w g (wi xs ++ r)) (hw:∀p∈xs,-9223372036854775808≤p∧p≤9223372036854775807) {cap:Nat} (hc:xs.length≤cap) (hm:cap≤35184372088832) {B:Nat} (hB:g<B) :
  SlI B w (.slice (some ⟨g,0,none⟩) xs.length cap) xs :=
 ⟨hw,_,cap,rfl,hc,hm,.inr ⟨g,0,rfl,hB,fun j hj=>by rw [Nat.zero_add];exact h.num hj⟩⟩
theorem wpList_append_intN (w:World) {ops:Array Oper} {rest:List Oper} {o:Oper} {a:Act} {Q:Exit→Act→World→Prop}
  (hg:o.guard=none) (s x:Operand) (hop:o.op=Op.call { callee:=Callee.builtin Builtin.append,args:=#[s,x],argTypes:=#[33,33] })
  (g n cap:Nat) (zs:List Int) (r:List Value) (c:Int) (hrow:RowI w g (wi zs ++ r)) (hn:zs.length=n) (hr:0<r.length) (hcap:cap=n+r.length) (hs:a.eval s=.slice (some ⟨g,0,none⟩) n cap)
  (ad:Addr) (hx:a.eval x=.slice (some ad) 1 1) (hc:w.cell? ad=some (.int .i64 c))
  (hK:∀w',RowI w' g (wi (zs ++ [c]) ++ r.tail)→Below g w w'→wpList Tryz.prog ops Q rest (a.put o.dst (.slice (some ⟨g,0,none⟩) (n+1) cap)) w') :
  wpList Tryz.prog ops Q (o :: rest) a w:=by
 obtain ⟨i,hi,hz,hsz,hb⟩:=info_parts Tryz.infoI;subst hn;have hlw:(wi zs).length=zs.length:=by simp [wi]
 have hrun:=run_append_room (P:=Tryz.prog) w 33 o.type 3 i Tryz.underlying33 hi g zs.length cap (wi zs ++ r).toArray hrow ad 1 1 [.int .i64 c] (by simp [hsz])
  (by intro j u hj;match j,hj with | 0,hj=>simp at hj;subst hj;simpa [Addr.add] using hc) (by intro u hu;simp at hu;subst hu;rfl) (by omega) (by simp [hsz,hlw];omega)
 have e:(wi zs ++ r).take (zs.length*i.size) ++ [Value.int .i64 c] ++ (wi zs ++ r).drop (zs.length*i.size+1)=wi (zs ++ [c]) ++ r.tail:=by
  rw [hsz,Nat.mul_one,List.take_append_of_le_length (by omega),List.take_of_length_le (by omega),List.drop_append,List.drop_of_length_le (by omega),hlw,show zs.length+1-zs.length=1 by omega];simp [wi]
 rw [List.toList_toArray,show [Value.int .i64 c].length=1 from rfl,e] at hrun;refine wpList_plain hg fun K hK'=>?_
 unfold Oper.wp;simp [execOp,hop,resolve,invoke,builtin,hs,hx,hrun,Result.andThen];refine hK' _ _ (hK _ ?_ (below_setRow (Below.refl _ _) (Nat.le_refl _) _));unfold RowI;exact setRow_heap w g _ _ _ _ hrow
theorem wpList_append_more (w:World) {ops:Array Oper} {rest:List Oper} {o:Oper} {a:Act} {Q:Exit→Act→World→Prop}
  (hg:o.guard=none) (s x:Operand) (hop:o.op=Op.call { callee:=Callee.builtin Builtin.append,args:=#[s,x],argTypes:=#[45,45] })
  (g n cap:Nat) (zs:List Int) (r:List Value) (c:Int) (hrow:Row w g (ws zs ++ r)) (hn:zs.length=n) (hr:0<r.length) (hcap:cap=n+r.length) (hs:a.eval s=.slice (some ⟨g,0,none⟩) n cap)
  (ad:Addr) (hx:a.eval x=.slice (some ad) 1 1) (hc:w.cell? ad=some (.int .u64 c))
  (hK:∀w',Row w' g (ws (zs ++ [c]) ++ r.tail)→Below g w w'→wpList Tryz.prog ops Q rest (a.put o.dst (.slice (some ⟨g,0,none⟩) (n+1) cap)) w') :
  wpList Tryz.prog ops Q (o :: rest) a w:=by
 obtain ⟨i,hi,hz,hsz,hb⟩:=info_parts Tryz.infoW;subst hn;have hlw:(ws zs).length=zs.length:=by simp [ws]
 have hrun:=run_append_room (P:=Tryz.prog) w 45 o.type 49 i Tryz.underlying45 hi g zs.length cap (ws zs ++ r).toArray hrow ad 1 1 [.int .u64 c] (by simp [hsz])
  (by intro j u hj;match j,hj with | 0,hj=>simp at hj;subst hj;simpa [Addr.add] using hc) (by intro u hu;simp at hu;subst hu;rfl) (by omega) (by simp [hsz,hlw];omega)
 have e:(ws zs ++ r).take (zs.length*i.size) ++ [Value.int .u64 c] ++ (ws zs ++ r).drop (zs.length*i.size+1)=ws (zs ++ [c]) ++ r.tail:=by
  rw [hsz,Nat.mul_one,List.take_append_of_le_length (by omega),List.take_of_length_le (by omega),List.drop_append,List.drop_of_length_le (by omega),hlw,show zs.length+1-zs.length=1 by omega];simp [ws]
 rw [List.toList_toArray,show [Value.int .u64 c].length=1 from rfl,e] at hrun;refine wpList_plain hg fun K hK'=>?_
 unfold Oper.wp;simp [execOp,hop,resolve,invoke,builtin,hs,hx,hrun,Result.andThen];refine hK' _ _ (hK _ ?_ (below_setRow (Below.refl _ _) (Nat.le_refl _) _));unfold Row;exact setRow_heap w g _ _ _ _ hrow
end Go.Proofs.YtjjpodnjljfheaaGreat
