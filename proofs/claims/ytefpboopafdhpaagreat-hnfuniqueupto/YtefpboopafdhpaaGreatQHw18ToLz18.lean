/-
 QHw18ToLz18: Hw18, If18, Lz18, joined.
-/
import Derived.Test.YtefpboopafdhpaaGreatQFo18
import Derived.Test.YtefpboopafdhpaaGreatQGr16ToRc12
import Derived.Test.YtefpboopafdhpaaGreatQPw18
import Derived.Test.YtefpboopafdhpaaGreatQLx18ToLp18

set_option maxRecDepth 100000
set_option maxHeartbeats 6400000
set_option linter.unusedVariables false
set_option linter.unusedSimpArgs false
namespace Go.Proofs.YtefpboopafdhpaaGreat
theorem Hb18.same {m n r r':Nat} {γ γ':Nat→Nat} {X X' A A':Nat→Nat→Int} (h:Hb18 m n m r id γ X A) (h':Hb18 m n m r' id γ' X' A') (e:∀v,Cm19 m n A v↔Cm19 m n A' v):zG18 m n X=zG18 m n X':=by
 obtain ⟨rfl,hq⟩:=h.ec.one h'.ec h.rd h'.rd fun v=>(h.lat v).trans ((e v).trans (h'.lat v).symm)
 refine zLB fun i j hi hj=>?_
 by_cases q:i<r
 ·exact (hq i q).2 j hj
 ·rw [h.ec.rest i hi (fun a ha=>by simp;omega) j hj,h'.ec.rest i hi (fun a ha=>by simp;omega) j hj]
theorem Hb18.on {m n r:Nat} {γ:Nat→Nat} {X A:Nat→Nat→Int} (h:Hb18 m n m r id γ X A):Hb18 m n m r id γ (en18 n (zG18 m n X)) (en18 n (zG18 m n X)):=by
 have e:∀i j,i<m→j<n→en18 n (zG18 m n X) i j=X i j:=fun i j hi hj=>zsE hi hj
 have rl:∀a,a<r→a<m:=fun a ha=>by have:=h.ec.rl a ha;simpa using this
 refine ⟨⟨h.ec.up,h.ec.cl,h.ec.rl,h.ec.inj,fun a j ha hj=>?_,fun a ha=>?_,fun t ht hn j hj=>?_⟩,fun a b h1 h2 h3=>?_,fun v=>Iff.rfl,fun t _=>rfl⟩
 ·rw [show id a=a from rfl,e a j (rl a ha) (by have:=h.ec.cl a ha;omega)];exact h.ec.zero a j ha hj
 ·rw [show id a=a from rfl,e a _ (rl a ha) (h.ec.cl a ha)];exact h.ec.pos a ha
 ·rw [e t j ht hj];exact h.ec.rest t ht hn j hj
 ·rw [show id a=a from rfl,show id b=b from rfl,e a _ (rl a (by omega)) (h.ec.cl b h3),e b _ (rl b h3) (h.ec.cl b h3)];exact h.rd a b h1 h2 h3
theorem zrF {T t:Nat} (h:((T:Nat):Int)<pw t):∀e,((bd18 T e:Nat):Int)<pw (e*(t+1)+t)
 | 0=>by rw [zBE,Nat.zero_mul,Nat.zero_add];exact h
 | e+1=>by
  have ih:=zrF h e;rw [zyB,show (e+1)*(t+1)+t=(t+1)+(e*(t+1)+t) by rw [Nat.succ_mul];omega,zyA];have h1:((2*T:Nat):Int)<pw (t+1):=by
   have:=zyA t 1;rw [this];have hp:=zmA t;have h2:pw t*2≤pw t*pw 1:=Int.mul_le_mul_of_nonneg_left (by decide) (by omega);omega
  have h3:((2*T*bd18 T e:Nat):Int)=((2*T:Nat):Int)*((bd18 T e:Nat):Int):=by simp
  rw [h3];have q1:((2*T:Nat):Int)*((bd18 T e:Nat):Int)≤((2*T:Nat):Int)*pw (e*(t+1)+t):=Int.mul_le_mul_of_nonneg_left (by omega) (by omega);exact Int.lt_of_le_of_lt q1 (Int.mul_lt_mul_of_pos_right h1 (by have:=zmA (e*(t+1)+t);omega))
theorem tpw18 {Y k:Nat} (h:((Y:Nat):Int)<pw k):((64*(64*Y) ^ 64:Nat):Int)<pw (64*k+65):=by
 have h1:((64*Y:Nat):Int)<pw (k+1):=by
  rw [zyA];have hp:=zmA k;have h2:pw k*64≤pw k*pw 1:=Int.mul_le_mul_of_nonneg_left (by decide) (by omega);omega
 have h2:∀e,(((64*Y) ^ e:Nat):Int)≤pw ((k+1)*e):=by
  intro e
  induction e with
  | zero=>simp [pw]
  | succ e ih =>
   rw [Nat.pow_succ,Nat.mul_succ,zyA];have h3:(((64*Y) ^ e*(64*Y):Nat):Int)=(((64*Y) ^ e:Nat):Int)*((64*Y:Nat):Int):=by simp
   rw [h3];exact Int.mul_le_mul ih (by omega) (by omega) (by have:=zmA ((k+1)*e);omega)
 have h3:=h2 64;have e:64*k+65=(k+1)*64+1:=by omega
 rw [e,zyA];have h4:((64*(64*Y) ^ 64:Nat):Int)=64*(((64*Y) ^ 64:Nat):Int):=by simp
 rw [h4];have hp:=zmA ((k+1)*64);have h5:pw ((k+1)*64)*65≤pw ((k+1)*64)*pw 1:=Int.mul_le_mul_of_nonneg_left (by decide) (by omega);omega
theorem zhF {m n k:Nat} {zs:List Int} (hn:n≤64) (hz:zs.length=m*n) (hb:∀z∈zs,(z.natAbs:Int)<pw k) (hk:1≤k):∃T,Tb18 m n (en18 n zs) T∧((T:Nat):Int)<pw (64*k+65):=by
 have hp1:(1:Int)<pw k:=by
  obtain ⟨d,rfl⟩:∃d,k=d+1:=⟨k-1,by omega⟩
  rw [zyA];have hp:=zmA d;have:1*pw 1≤pw d*pw 1:=Int.mul_le_mul_of_nonneg_right (by omega) (by decide);have:(1:Int)<pw 1:=by decide
  omega
 refine ⟨64*(64*(pw k-1).toNat) ^ 64,tb18 hn (by omega) (fun t j ht hj=>?_),tpw18 (by omega)⟩;have hl:=zoC ht hj;have e:en18 n zs t j=zs[t*n+j]'(by omega):=by unfold en18;simp [show t*n+j<zs.length by omega]
 have:=hb _ (List.getElem_mem (l:=zs) (n:=t*n+j) (by omega));rw [e];omega
open Go.RowKit
def ziI (w:World) (n m:Nat) (X:Nat→Nat→Int) (e:Ending) (w':World):Prop:=∃bb:Bool,e=.returned (.tuple #[.bool bb,.int .i64 0])∧(bb=true↔Hf18 n m X)∧Below w.heap.size w w'
theorem isForm18 {w:World} {v:Value} {m n k:Nat} {zs:List Int} (h:Mx w v m n zs k):Calls Tryz.prog 10 #[v] w (ziI w n m (en18 n zs)):=by
 obtain ⟨aa,ca,rfl,hm,hn⟩:=h.form;have hzl:zs.length=m*n:=by obtain ⟨_,_,_,_,_,h,_⟩:=h;exact h
 obtain ⟨la,hla⟩:∃la,m*n=la:=⟨_,rfl⟩
 have HLA:=hid hla;rw [hla] at h ⊢;dsimp only [matv] at h ⊢;obtain ⟨W0,hW⟩:∃W0,w.alloc (.cells #[.int .i64 (m:Int),.int .i64 (n:Int),.slice aa la ca] 24)=W0:=⟨_,rfl⟩
 obtain ⟨b0,sz0⟩:=alo1 w (.cells #[.int .i64 (m:Int),.int .i64 (n:Int),.slice aa la ca] 24);rw [hW] at b0 sz0;have dA:Cel W0 w.heap.size 24 [.int .i64 (m:Int),.int .i64 (n:Int),.slice aa la ca]:=by rw [←hW];exact Cel.new w _ _
 have MX:=hid (h.now b0);have HCK:=hid (zyD MX.out);have DA:=hid dA;have B0:=hid b0;have EW:=hid hW;have HZL:=hid hzl;have x0:=dA.at (i:=0) rfl;have x1:=dA.at (i:=1) rfl;have x2:=dA.at (i:=2) rfl;rw [←hW] at x0 x1 x2;clear h b0 sz0 hW dA hzl hla;go_enter Tryz.func10,Tryz.ntmps10;go_wp2_with fail;rw [EW.out];clear EW x0 x1 x2;refine HCK.out.mono ?_;rintro e w1 ⟨rfl,b1⟩;have DA1:=hid (DA.out.step b1);have B1:=hid (below_step B0.out b1);have HLI:=hid (zSF (MX.out.now b1));clear HCK DA MX;have x0:=DA1.out.at (i:=0) rfl;have x1:=DA1.out.at (i:=1) rfl;have x2:=DA1.out.at (i:=2) rfl;clear b1;go_wp2_with fail;refine HLI.out.mono ?_;rintro e w2 ⟨lv,gs,rfl,q1,q2⟩;have hml:(rowsL m n zs).length=m:=zZB;rw [hml] at q1;have SH2:=hid (q1.congr (fun i j hi hj=>zpG HZL.out hi hj));have B2:=hid (below_step B1.out q2);have HPV:=hid (pivotsOfB18 SH2.out hm hn);clear HLI q1 q2 DA1 B1 x0 x1 x2 hml;go_wp2_with fail;refine HPV.out.mono ?_;rintro e w3 ⟨pv,bb,rfl,h1,h2,b⟩;have FIN:Hid (ziI w n m (en18 n zs) (.returned (.tuple #[.bool bb,.int .i64 0])) w3):=⟨bb,rfl,⟨fun q=>by obtain ⟨r,γ,q1,q2,_⟩:=h1 q;exact ⟨r,γ,q1,q2⟩,fun q=>by
  rcases Bool.eq_false_or_eq_true bb with e | e
  ·exact e
  ·exact absurd q (h2 e)⟩,below_step B2.out b⟩
 clear HPV h1 h2 b B2 SH2;go_wp2;go_ret2;exact FIN.out
theorem zlF {w:World} {v:Value} {m n k T:Nat} {zs:List Int} (h:Mx w v m n zs k) (hTb:Tb18 m n (en18 n zs) T) {t:Nat} (h1:1≤t) (hkt:k≤t) (ht:t≤200000000) (hT:Hid (((T:Nat):Int)<pw t)):Calls Tryz.prog 7 #[v] w (zSI w m n (en18 n zs) t) :=
 zqH (kw:=128*(t+1)+t) h hTb (by omega) (zrF hT.out 128) (by omega) (by omega) hT.out
theorem zJF {w w':World} {n m:Nat} {X:Nat→Nat→Int} {e:Ending} (h:znC w n m X e w'):∃v bb,e=.returned (.tuple #[v,.bool bb])∧(bb=true↔Hf18 n m X)∧Below w.heap.size w w':=by
 obtain ⟨v,bb,h1,h2,h3,h4⟩:=h;exact ⟨v,bb,h1,⟨fun q=>by obtain ⟨r,γ,q1,q2,_⟩:=h2 q;exact ⟨r,γ,q1,q2⟩,fun q=>by
  rcases Bool.eq_false_or_eq_true bb with e | e
  ·exact e
  ·exact absurd q (h3 e)⟩,h4⟩
theorem hf_dec18 {m n r:Nat} {γ:Nat→Nat} {X:Nat→Nat→Int} {zs:List Int} (h:Hb18 m n m r id γ X (en18 n zs)) (hz:zs.length=m*n):Hf18 n m (en18 n zs)↔zs=zG18 m n X:=by
 rw [h.form]
 constructor
 ·intro q
  rw [←zfF hz];exact zLB q
 ·intro q i j hi hj
  rw [q];exact zsE hi hj
def zLI (w:World) (n:Nat) (zs ys:List Int) (gk:Nat) (s:Value) (wx:World):Prop:=∃i:Nat,s=.int .i64 (i:Int)∧i≤n∧gk=n-i∧(∀j,j<i→zs.getD j 0=ys.getD j 0)∧Below w.heap.size w wx
theorem alikeB18 {w:World} {v u:Value} {z y:Int} {k l:Nat} (h:Zc w v z k) (h':Zc w u y l) :
  Calls Tryz.prog 34 #[v,u] w fun e w'=>e=.returned (.bool (decide (z=y)))∧Below w.heap.size w w':=by
 obtain ⟨n,xs,a,c,rfl,s0,q0,e0,z0,k0⟩:=h;obtain ⟨m,ys,b,d,rfl,s1,q1,e1,z1,k1⟩:=h';obtain ⟨D,hD⟩:∃D,decide (z=y)=D:=⟨_,rfl⟩
 rw [hD];have hD2:D=(same xs ys && (n == m)):=by
  rw [←hD]
  by_cases q:z=y
  ·obtain ⟨rfl,rfl⟩:=znH (z0.trans (q.trans z1.symm)) q0 q1 e0 e1
   simp [q,zEF]
  ·have:¬(same xs ys=true∧n=m):=fun ⟨g1,g2⟩=>q (by
    have g3:xs=ys:=by simpa [same] using g1
    subst g2;subst g3;exact z0.symm.trans z1)
   rw [decide_eq_false q]
   symm
   rw [Bool.and_eq_false_iff]
   by_cases g:same xs ys=true
   ·right
    simpa using fun e=>this ⟨g,e⟩
   ·left
    simpa using g
 have HD2:=hid hD2;clear hD hD2;obtain ⟨W0,hW⟩:∃W0,(w.alloc (duo (.bool n) (.slice a xs.length c))).alloc (duo (.bool m) (.slice b ys.length d))=W0:=⟨_,rfl⟩
 have b0:=(zSA w (duo (.bool n) (.slice a xs.length c)) (duo (.bool m) (.slice b ys.length d))).1;rw [hW] at b0;have P2:Hid (Duo W0 w.heap.size (.bool n) (.slice a xs.length c)):=by unfold Hid;rw [←hW];exact (Duo.new w _ _).later (by simp) _
 have P3:Hid (Duo W0 (w.heap.size+1) (.bool m) (.slice b ys.length d)):=by
  unfold Hid;rw [←hW];have:=Duo.new (w.alloc (duo (.bool n) (.slice a xs.length c))) (.bool m) (.slice b ys.length d)
  simpa using this
 have HC:=hid (zDG (s0.now b0) (s1.now b0));have B0:=hid b0;have x1:=P2.out.c1;have y1:=P3.out.c1;rw [←hW] at x1 y1;have EW:=hid hW;clear s0 s1 z0 z1 b0 q0 q1 e0 e1 hW;go_enter Tryz.func34,Tryz.ntmps34;go_wp2_with fail;rw [EW.out];refine HC.out.mono ?_;rintro e w1 ⟨rfl,b1⟩;have B1:=hid (below_step B0.out b1);have x0:=(P2.out.step b1).c0;have y0:=(P3.out.step b1).c0;clear b1 HC x1 y1 EW;have HD3:=HD2.out;cases hs:same xs ys <;> rw [hs] at HD3 <;> cases n <;> cases m <;> (go_wp2;go_ret;exact ⟨by rw [HD3];rfl,B1.out⟩)
theorem alikeRowsB18 {w:World} {B B' k l:Nat} {va vb:Value} {ps qs:List (Value×Value)} {zs ys:List Int} (ha:Prs B w va ps) (hza:Zcs w ps zs k) (hb:Prs B' w vb qs) (hzb:Zcs w qs ys l) (hzy:zs.length=ys.length) :
  Calls Tryz.prog 19 #[va,vb] w fun e w'=>e=.returned (.bool (decide (zs=ys)))∧Below w.heap.size w w':=by
 obtain ⟨D,hD⟩:∃D,decide (zs=ys)=D:=⟨_,rfl⟩
 rw [hD];have HD:=hid hD;clear hD;have A0:=hid ha;have B0:=hid hb;have ZA:=hid hza;have ZB:=hid hzb;obtain ⟨aa,ca,rfl,hca,hna,-,hfa⟩:=ha.form;obtain ⟨ab,cb,rfl,hcb,hnb,-,hfb⟩:=hb.form;obtain ⟨n,hn⟩:∃n,zs.length=n:=⟨_,rfl⟩
 rw [hza.1,hn] at A0 hca hna ⊢;have hn2:ys.length=n:=by rw [←hzy,hn]
 rw [hzb.1,hn2] at B0 hcb hnb ⊢;have FA:Hid (n≠0→∃b off,aa=some ⟨b,off,none⟩):=fun h=>by
  obtain ⟨b,off,e,-⟩:=hfa (fun e=>h (by rw [←hn,←hza.1,e];rfl));exact ⟨b,off,e⟩
 have FB:Hid (n≠0→∃b off,ab=some ⟨b,off,none⟩):=fun h=>by
  obtain ⟨b,off,e,-⟩:=hfb (fun e=>h (by rw [←hn2,←hzb.1,e];rfl));exact ⟨b,off,e⟩
 have HN:=hid hn;have HN2:=hid hn2;have H0:Hid (zLI w n zs ys n (.int .i64 0) w):=⟨0,rfl,Nat.zero_le _,by omega,fun j hj=>by omega,Below.refl _ _⟩
 have q0:((n:Int) != (n:Int))=false:=by simp
 clear ha hb hza hzb hfa hfb hn hn2 hzy;go_enter Tryz.func19,Tryz.ntmps19;go_wp2_with fail
 go_loopg [5] n (fun gk s5 wx=>zLI w n zs ys gk s5 wx)
 case atStart=>exact H0.out
 case round =>
  clear H0;obtain ⟨i,rfl,hin,hg,hee,hG⟩:=hrel;have HEE:=hid hee;clear hee;have G:=hid hG;have HG:=hid hg;clear hG hg
  by_cases hlt:i<n
  ·have hlt':(i:Int)<(n:Int):=by omega
   obtain ⟨b1,o1,rfl⟩:=FA.out (by omega);obtain ⟨b2,o2,rfl⟩:=FB.out (by omega);obtain ⟨nf,xf,adf,qf,k0,k1,zf⟩:=Zcs.at9 (A0.out.now G.out) (ZA.out.now G.out) (i:=i) (by rw [HN.out];exact hlt);obtain ⟨ng,xg,adg,qg,k2,k3,zg⟩:=Zcs.at9 (B0.out.now G.out) (ZB.out.now G.out) (i:=i) (by rw [HN2.out];exact hlt);obtain ⟨z1,hz1⟩:∃z1,zs.getD i 0=z1:=⟨_,rfl⟩
   obtain ⟨z2,hz2⟩:∃z2,ys.getD i 0=z2:=⟨_,rfl⟩
   have ez1:zs[i]'(by rw [HN.out];exact hlt)=z1:=by rw [←hz1];simp [show i<zs.length by rw [HN.out];exact hlt]
   have ez2:ys[i]'(by rw [HN2.out];exact hlt)=z2:=by rw [←hz2];simp [show i<ys.length by rw [HN2.out];exact hlt]
   rw [ez1] at zf;rw [ez2] at zg;obtain ⟨bb,hbb⟩:∃bb,decide (z1=z2)=bb:=⟨_,rfl⟩
   have HS:Hid (∀w',Below wr.heap.size wr w'→Calls Tryz.prog 34 #[.agg #[.bool nf,.slice adf xf.length qf],.agg #[.bool ng,.slice adg xg.length qg]] w' fun e w''=>e=.returned (.bool bb)∧Below w'.heap.size w' w''):=fun w' h=>by
    have:=alikeB18 (zf.now h) (zg.now h);rw [hbb] at this;exact this
   have HZ1:=hid hz1;have HZ2:=hid hz2;have HBB:=hid hbb;clear hz1 hz2 ez1 ez2 hbb;clear zf zg;have hw:=zYA (i:=i) (by omega);go_wp2_with fail;have KB:Hid (∀w',Below wr.heap.size wr w'→w'.cell? ⟨b1,o1+i*2,none⟩=some (.bool nf)∧w'.cell? ⟨b1,o1+i*2+1,none⟩=some (.slice adf xf.length qf)∧w'.cell? ⟨b2,o2+i*2,none⟩=some (.bool ng)∧w'.cell? ⟨b2,o2+i*2+1,none⟩=some (.slice adg xg.length qg)):=fun w' h=>⟨cnow h k0,cnow h k1,cnow h k2,cnow h k3⟩
   refine zFA (fun w'=>w'.cell? ⟨b1,o1+i*2,none⟩=some (.bool nf)∧w'.cell? ⟨b1,o1+i*2+1,none⟩=some (.slice adf xf.length qf)∧w'.cell? ⟨b2,o2+i*2,none⟩=some (.bool ng)∧w'.cell? ⟨b2,o2+i*2+1,none⟩=some (.slice adg xg.length qg)) 9 (by kernel_rfl) ?_;obtain ⟨D1,hD⟩:∃D1,wr.drew=D1:=⟨_,rfl⟩
   have GB:Hid (Below wr.heap.size wr D1):=by unfold Hid;rw [←hD];exact (Below.refl _ _).drew
   rw [hD];clear hD;refine zBA (i:=0) (oi:=⟨some 18,.move (.tmp 0),22, "law.go:95",#[],none⟩) (v:=(.slice (some ⟨b1,o1,none⟩) n ca)) rfl (by kernel_rfl) (fun _ _ _ h=>h) (Or.inl ⟨by rfl,?_⟩) (KB.out _ GB.out) ?_
   ·intro w hSw;(try dsimp only at hSw);go_simp
   simp only [Act.put,sIb,sC0,sC1];refine zBA (i:=1) (oi:=⟨some 19,.move (.tmp 5),3, "law.go:95",#[],none⟩) (v:=(.int .i64 (i:Int))) rfl (by kernel_rfl) (fun _ _ _ h=>h) (Or.inl ⟨by rfl,?_⟩) (KB.out _ GB.out) ?_
   ·intro w hSw;(try dsimp only at hSw);go_simp
   simp only [Act.put,sIb,sC0,sC1];refine zBA (i:=2) (oi:=⟨some 20,.indexAddr 22 (.tmp 18) (.tmp 19),0, "law.go:95",#[⟨0,.data⟩,⟨1,.data⟩],none⟩) (v:=(.pointer (some ⟨b1,o1+i*2,none⟩))) rfl (by kernel_rfl) (fun _ _ _ h=>h) (Or.inl ⟨by rfl,?_⟩) (KB.out _ GB.out) ?_
   ·intro w hSw;(try dsimp only at hSw);go_simp
   simp only [Act.put,sIb,sC0,sC1];refine zBA (i:=3) (oi:=⟨some 21,.load 41 (.tmp 20),41, "law.go:95",#[⟨2,.data⟩],none⟩) (v:=(.agg #[.bool nf,.slice adf xf.length qf])) rfl (by kernel_rfl) (fun _ _ _ h=>h) (Or.inl ⟨by rfl,?_⟩) (KB.out _ GB.out) ?_
   ·intro w hSw;(try dsimp only at hSw);go_simp
   simp only [Act.put,sIb,sC0,sC1];refine zBA (i:=4) (oi:=⟨some 22,.move (.tmp 1),22, "law.go:95",#[],none⟩) (v:=(.slice (some ⟨b2,o2,none⟩) n cb)) rfl (by kernel_rfl) (fun _ _ _ h=>h) (Or.inl ⟨by rfl,?_⟩) (KB.out _ GB.out) ?_
   ·intro w hSw;(try dsimp only at hSw);go_simp
   simp only [Act.put,sIb,sC0,sC1];refine zBA (i:=5) (oi:=⟨some 23,.move (.tmp 5),3, "law.go:95",#[],none⟩) (v:=(.int .i64 (i:Int))) rfl (by kernel_rfl) (fun _ _ _ h=>h) (Or.inl ⟨by rfl,?_⟩) (KB.out _ GB.out) ?_
   ·intro w hSw;(try dsimp only at hSw);go_simp
   simp only [Act.put,sIb,sC0,sC1];refine zBA (i:=6) (oi:=⟨some 24,.indexAddr 22 (.tmp 22) (.tmp 23),0, "law.go:95",#[⟨4,.data⟩,⟨5,.data⟩],none⟩) (v:=(.pointer (some ⟨b2,o2+i*2,none⟩))) rfl (by kernel_rfl) (fun _ _ _ h=>h) (Or.inl ⟨by rfl,?_⟩) (KB.out _ GB.out) ?_
   ·intro w hSw;(try dsimp only at hSw);go_simp
   simp only [Act.put,sIb,sC0,sC1];refine zBA (i:=7) (oi:=⟨some 25,.load 41 (.tmp 24),41, "law.go:95",#[⟨6,.data⟩],none⟩) (v:=(.agg #[.bool ng,.slice adg xg.length qg])) rfl (by kernel_rfl) (fun _ _ _ h=>h) (Or.inl ⟨by rfl,?_⟩) (KB.out _ GB.out) ?_
   ·intro w hSw;(try dsimp only at hSw);go_simp
   simp only [Act.put,sIb,sC0,sC1];refine zAA (i:=8) (o:=⟨some 26,.call { callee:=.value (.func 34),args:=#[.tmp 21,.tmp 25],argTypes:=#[41,41] },4, "law.go:95",#[⟨3,.data⟩,⟨7,.data⟩],none⟩) (by kernel_rfl) rfl (fun K hK=>?_);go_simp;go_at_call 34;refine (HS.out _ GB.out).mono ?_;rintro e w2 ⟨rfl,b⟩;have lz2:=(show Below _ _ _ from b).size;replace GB:=hid (below_step GB.out b);have G1:=hid (below_step G.out GB.out);clear b;refine hK.out _ _ (fun _=>KB.out _ GB.out) ?_;clear hK;refine zAA (i:=9) (o:=⟨some 6,.assign (.tmp 26),4, "law.go:95",#[⟨8,.data⟩,⟨8,.chain⟩,⟨0,.phase⟩,⟨1,.phase⟩,⟨2,.phase⟩,⟨3,.phase⟩,⟨4,.phase⟩,⟨5,.phase⟩,⟨6,.phase⟩,⟨7,.phase⟩,⟨8,.phase⟩],none⟩) (by kernel_rfl) rfl (fun K hK=>?_);go_simp;refine hK.out _ _ (fun h=>absurd h (by decide)) ?_;clear hK
   try simp only [Act.put]
   refine zDA (by kernel_rfl) ?_ _;have HMM:Hid (n-(i+1)<gk):=by unfold Hid;rw [HG.out];omega
   rcases Bool.eq_false_or_eq_true bb with q | q
   ·subst q
    have hz12:z1=z2:=by simpa using HBB.out
    have HN1:Hid (zLI w n zs ys (n-(i+1)) (.int .i64 ((i+1:Nat):Int)) w2):=⟨i+1,rfl,by omega,rfl,fun j hj=>by
     by_cases q:j=i
     ·rw [q,HZ1.out,HZ2.out,hz12]
     ·exact HEE.out j (by omega),G1.out⟩
    clear HS G HG G1 GB KB hz12;go_wp2_with fail;go_roundg (n-(i+1))
    case rel=>exact HN1.out
    case measure=>exact HMM.out
   ·subst q
    have hz12:z1≠z2:=by simpa using HBB.out
    have hDf:D=false:=by
     rw [←HD.out];exact decide_eq_false fun e=>hz12 (by rw [←HZ1.out,←HZ2.out,e])
    have HDF:=hid hDf;clear HS G HG GB KB hz12 hDf;go_wp2;go_ret;exact ⟨by rw [HDF.out];rfl,G1.out⟩
  ·have hlt':¬(i:Int)<(n:Int):=by omega
   have hDt:D=true:=by
    rw [←HD.out];refine decide_eq_true (List.ext_getElem (by rw [HN.out,HN2.out]) fun j h1 h2=>?_);have:=HEE.out j (by have:=HN.out;omega)
    simpa [h1,h2] using this
   have HDT:=hid hDt;clear HG hDt;go_wp2;go_ret;exact ⟨by rw [HDT.out];rfl,G.out⟩
theorem alikeMatsB18 {w:World} {va vb:Value} {r c k l:Nat} {zs ys:List Int} (ha:Mc w va r c zs k) (hb:Mc w vb r c ys l) :
  Calls Tryz.prog 8 #[va,vb] w fun e w'=>e=.returned (.bool (decide (zs=ys)))∧Below w.heap.size w w':=by
 obtain ⟨D,hD⟩:∃D,decide (zs=ys)=D:=⟨_,rfl⟩
 rw [hD];obtain ⟨ata,pa,rfl,pa1,pa2,la1,-,-⟩:=ha;obtain ⟨atb,pb,rfl,pb1,pb2,lb1,-,-⟩:=hb;obtain ⟨W0,hW⟩:∃W0,(w.alloc (matO r c ata)).alloc (matO r c atb)=W0:=⟨_,rfl⟩
 obtain ⟨b0,sz0⟩:=zSA w (matO r c ata) (matO r c atb);rw [hW] at b0;have qa:Cel W0 w.heap.size 24 (matc r c ata):=by
  rw [←hW];exact (Cel.new w 24 (matc r c ata)).step ((Below.refl _ _).alloc (Nat.le_refl _) _)
 have qb:Cel W0 (w.heap.size+1) 24 (matc r c atb):=by
  rw [←hW];have:=Cel.new (w.alloc (matO r c ata)) 24 (matc r c atb)
  simpa using this
 have HS:=hid (alikeRowsB18 (pa1.now b0) (pa2.now b0) (pb1.now b0) (pb2.now b0) (la1.trans lb1.symm));rw [hD] at HS;clear hD la1 lb1;obtain ⟨aa,ca,rfl,-,-,-,-⟩:=pa1.form;obtain ⟨ab,cb,rfl,-,-,-,-⟩:=pb1.form;have x2:=qa.at (i:=2) rfl;have y2:=qb.at (i:=2) rfl;rw [←hW] at x2 y2;have QA:=hid qa;have QB:=hid qb;have q0:((r:Int) == (r:Int))=true:=by simp
 have q1:((c:Int) == (c:Int))=true:=by simp
 have G0:=hid b0;have EW:=hid hW;clear b0 sz0 hW qa qb pa1 pa2 pb1 pb2;go_enter Tryz.func8,Tryz.ntmps8;go_wp2_with fail;rw [EW.out];refine HS.out.mono ?_;rintro e w1 ⟨rfl,b⟩;have x0:=(QA.out.step b).at (i:=0) rfl;have x1:=(QA.out.step b).at (i:=1) rfl;have y0:=(QB.out.step b).at (i:=0) rfl;have y1:=(QB.out.step b).at (i:=1) rfl;have G1:=hid (below_step G0.out b);clear b HS x2 y2 EW QA QB;cases D <;> (go_wp2;go_ret;exact ⟨rfl,G1.out⟩)
end Go.Proofs.YtefpboopafdhpaaGreat
