/-
 QMn14ToTailL: Mn14, Aj14, Cm14, Cu14, Gp23, TailL, joined.
-/
import Derived.Test.YtjnokjgbeploaaaGreatQDt13
import Derived.Test.YtjnokjgbeploaaaGreatQCz14ToTm14
import Derived.Test.YtjnokjgbeploaaaGreatQPickA9ToPickB9
import Derived.Test.YtjnokjgbeploaaaGreatQMi14ToCj14
import Derived.Test.YtjnokjgbeploaaaGreatQWf14ToTb14
import Derived.Test.YtjnokjgbeploaaaGreatQUnit9ToBw8
import Derived.Test.YtjnokjgbeploaaaGreatQCp14
import Derived.Test.YtjnokjgbeploaaaGreatQEx13ToDm14
import Derived.Test.YtjnokjgbeploaaaGreatQCr13ToCb23
import Derived.Test.YtjnokjgbeploaaaGreatQGr23ToWk13
import Derived.Test.YtjnokjgbeploaaaGreatQEachM11ToPr12
import Derived.Test.YtjnokjgbeploaaaGreatQFil9ToDot9

set_option maxRecDepth 100000
set_option maxHeartbeats 6400000
set_option linter.unusedVariables false
set_option linter.unusedSimpArgs false
namespace Go.Proofs.YtjnokjgbeploaaaGreat
open Go.RowKit
theorem zOD:∀d k,d<k→cho d k=0
 | 0,k+1,_=>rfl
 | d+1,k+1,h=>by show cho d k+cho d (k+1)=0;rw [zOD d k (by omega),zOD d (k+1) (by omega)]
theorem cho_full:∀d,cho d d=1
 | 0=>rfl
 | d+1=>by show cho d d+cho d (d+1)=1;rw [cho_full d,zOD d (d+1) (by omega)]
theorem zF_more (m n:Nat) (F:Nat→Nat→Int):zF (m+1) n F=zF m n F ++ (List.range n).map (F m):=by
 unfold zF;rw [Nat.succ_mul,List.range_add,List.map_append,List.map_map]
 congr 1
 refine List.map_congr_left fun t ht=>?_
 have ht':t<n:=by simpa using ht
 obtain ⟨e1,e2⟩:=zhI (i:=m) ht'
 show F ((m*n+t) / n) ((m*n+t) % n)=_
 rw [e1,e2]
theorem zZI (A:Nat→Nat→Int) (m n k C:Nat):∀t,cpL A m n k C t 0=zF t C (cpE A m n k)
 | 0=>by simp [cpL,zF]
 | t+1=>by
  rw [←zeH,zF_more,←zZI A m n k C t];unfold cpL
  simp
section
variable {A:Nat→Nat→Int} {n i j r c:Nat}
end
theorem zMH {w:World} {v:Value} {r c:Nat} {kv:Int} {zs:List Int} {k:Nat} (h:Mx w v r c zs k) (hk:0≤kv∧kv≤(r:Int)∧kv≤(c:Int)):Calls Tryz.prog 30 #[v,.int .i64 kv] w fun e w'=>e=.returned (.int .i64 0)∧Below w.heap.size w w':=by
 have M0:=h;obtain ⟨aa,ca,rfl,hr,hc⟩:=h.form;obtain ⟨la,hla⟩:∃la,r*c=la:=⟨_,rfl⟩
 rw [hla] at M0 ⊢;obtain ⟨W0,hW⟩:∃W0,w.alloc (matO r c (.slice aa la ca))=W0:=⟨_,rfl⟩
 obtain ⟨b0,sz0⟩:=alo1 w (matO r c (.slice aa la ca));rw [hW] at b0 sz0;have P0:Hid (Cel W0 w.heap.size 24 (matc r c (.slice aa la ca))):=by unfold Hid;rw [←hW];exact Cel.new w _ _
 have HC:=hid (zIB (M0.now b0));have G:=hid b0;have EW:=hid hW;have q1d:decide (kv<0)=false:=decide_eq_false (by omega);have q2d:decide (min (r:Int) (c:Int)<kv)=false:=decide_eq_false (by omega);clear h M0 b0 sz0 hW hla hk;go_enter Tryz.func30,Tryz.ntmps30;go_wp2_with fail;rw [EW.out];refine HC.out.mono ?_;rintro e w1 ⟨rfl,b⟩;have G1:=hid (zBA G.out b);have x0:=(P0.out.step b).at (i:=0) rfl;have x1:=(P0.out.step b).at (i:=1) rfl;clear HC b;go_wp2;go_ret;exact ⟨rfl,G1.out⟩
theorem com_big {w:World} {va:Value} {m n k kk:Nat} {zs:List Int} (ha:Mx w va m n zs kk) (hkk:64*kk+7≤4000000000) (hkm:k≤m) (hkn:k≤n) (hc:64<cho m k∨64<cho n k) :
  Calls Tryz.prog 15 #[va,.int .i64 (k:Int)] w (zwC w 5):=by
 have M0:=ha;obtain ⟨aa,ca,rfl,hm64,hn64⟩:=ha.form;obtain ⟨la,hla⟩:∃la,m*n=la:=⟨_,rfl⟩
 rw [hla] at M0 ⊢;have ENN:=hid hla;obtain ⟨cm,hcm⟩:∃cm,cho m k=cm:=⟨_,rfl⟩
 obtain ⟨cn,hcn⟩:∃cn,cho n k=cn:=⟨_,rfl⟩
 have ECM:=hid hcm;have ECN:=hid hcn;have q1:(64:Int)<max (cm:Int) (cn:Int):=by omega
 have q1d:decide ((64:Int)<max (cm:Int) (cn:Int))=true:=decide_eq_true q1;obtain ⟨W0,hW⟩:∃W0,(w.alloc (matO m n (.slice aa la ca))).alloc mbox=W0:=⟨_,rfl⟩
 obtain ⟨b0,sz0⟩:=zjA w (matO m n (.slice aa la ca)) mbox;rw [hW] at b0 sz0;have PA:Hid (Cel W0 w.heap.size 24 (matc m n (.slice aa la ca))):=by
  unfold Hid;rw [←hW];exact (Cel.new w 24 (matc m n (.slice aa la ca))).step ((Below.refl _ _).alloc (Nat.le_refl _) _)
 have PR:Hid (Cel W0 (w.heap.size+1) 24 [.int .i64 0,.int .i64 0,.slice none 0 0]):=by
  unfold Hid;rw [←hW];have:=Cel.new (w.alloc (matO m n (.slice aa la ca))) 24 [.int .i64 0,.int .i64 0,.slice none 0 0]
  simpa using this
 have HC:=hid (zMH (M0.now b0) (kv:=(k:Int)) (by omega));have MA:=hid (M0.now b0);have G:=hid b0;have EW:=hid hW;have SZ:=hid sz0;clear ha M0 b0 hW hla sz0 hcm hcn;go_enter Tryz.func15,Tryz.ntmps15;go_wp2_with fail;rw [EW.out];clear EW;refine HC.out.mono ?_;rintro e w1 ⟨rfl,b⟩;replace MA:=hid (MA.out.now b);replace PA:=hid (PA.out.step b);replace PR:=hid (PR.out.step b);replace G:=hid (zBA G.out b);have lz1:Hid (w.heap.size+1<w1.heap.size):=by unfold Hid;have:=SZ.out;have:=b.size;omega
 have x0:=PA.out.at (i:=0) rfl;have x1:=PA.out.at (i:=1) rfl;clear HC b;go_wp2_with fail;have KB:Hid (∀w',Below w1.heap.size w1 w'→w'.cell? ⟨w.heap.size,0,none⟩=some (.int .i64 (m:Int))∧w'.cell? ⟨w.heap.size,1,none⟩=some (.int .i64 (n:Int))):=fun w' h=>⟨cnow h x0,cnow h x1⟩
 refine zDA (fun w'=>w'.cell? ⟨w.heap.size,0,none⟩=some (.int .i64 (m:Int))∧w'.cell? ⟨w.heap.size,1,none⟩=some (.int .i64 (n:Int))) 9 (by kernel_rfl) ?_;obtain ⟨D21,hD⟩:∃D21,w1.drew=D21:=⟨_,rfl⟩
 have GB:Hid (Below w1.heap.size w1 D21):=by unfold Hid;rw [←hD];exact (Below.refl _ _).drew
 rw [hD];clear hD;refine zAA (i:=0) (oi:=⟨some 14,.fieldAddr 24 (.tmp 2) 0,0, "minors.go:47",#[],none⟩) (v:=(.pointer (some ⟨w.heap.size,0,none⟩))) rfl (by kernel_rfl) (fun _ _ _ h=>h) (Or.inl ⟨by rfl,?_⟩) (KB.out _ GB.out) ?_
 ·intro w hSw;(try dsimp only at hSw);go_simp
 simp only [Act.put,sIb,sC0,sC1];refine zAA (i:=1) (oi:=⟨some 15,.load 3 (.tmp 14),3, "minors.go:47",#[⟨0,.data⟩],none⟩) (v:=(.int .i64 (m:Int))) rfl (by kernel_rfl) (fun _ _ _ h=>h) (Or.inl ⟨by rfl,?_⟩) (KB.out _ GB.out) ?_
 ·intro w hSw;(try dsimp only at hSw);go_simp
 simp only [Act.put,sIb,sC0,sC1];refine zAA (i:=2) (oi:=⟨some 16,.move (.tmp 1),3, "minors.go:47",#[],none⟩) (v:=(.int .i64 (k:Int))) rfl (by kernel_rfl) (fun _ _ _ h=>h) (Or.inl ⟨by rfl,?_⟩) (KB.out _ GB.out) ?_
 ·intro w hSw;(try dsimp only at hSw);go_simp
 simp only [Act.put,sIb,sC0,sC1];refine zAA (i:=4) (oi:=⟨some 18,.fieldAddr 24 (.tmp 2) 1,0, "minors.go:47",#[],none⟩) (v:=(.pointer (some ⟨w.heap.size,1,none⟩))) rfl (by kernel_rfl) (fun _ _ _ h=>h) (Or.inl ⟨by rfl,?_⟩) (KB.out _ GB.out) ?_
 ·intro w hSw;(try dsimp only at hSw);go_simp
 simp only [Act.put,sIb,sC0,sC1];refine zAA (i:=5) (oi:=⟨some 19,.load 3 (.tmp 18),3, "minors.go:47",#[⟨4,.data⟩],none⟩) (v:=(.int .i64 (n:Int))) rfl (by kernel_rfl) (fun _ _ _ h=>h) (Or.inl ⟨by rfl,?_⟩) (KB.out _ GB.out) ?_
 ·intro w hSw;(try dsimp only at hSw);go_simp
 simp only [Act.put,sIb,sC0,sC1];refine zAA (i:=6) (oi:=⟨some 20,.move (.tmp 1),3, "minors.go:47",#[],none⟩) (v:=(.int .i64 (k:Int))) rfl (by kernel_rfl) (fun _ _ _ h=>h) (Or.inl ⟨by rfl,?_⟩) (KB.out _ GB.out) ?_
 ·intro w hSw;(try dsimp only at hSw);go_simp
 simp only [Act.put,sIb,sC0,sC1];refine zCA (i:=3) (o:=⟨some 17,.call { callee:=.value (.func 31),args:=#[.tmp 15,.tmp 16],argTypes:=#[3,3] },58, "minors.go:47",#[⟨1,.data⟩,⟨2,.data⟩],none⟩) (by kernel_rfl) rfl (fun K hK=>?_);go_simp;go_at_call 31;refine ((show Calls _ _ _ _ _ from zaB (n:=m) hm64 hkm)).mono ?_;rintro e w22 ⟨rfl,b⟩;have lz22:=(show Below _ _ _ from b).size;replace GB:=hid (zBA GB.out b);rw [ECM.out];clear b;refine hK.out _ _ (fun _=>KB.out _ GB.out) ?_;clear hK;refine zCA (i:=7) (o:=⟨some 21,.call { callee:=.value (.func 31),args:=#[.tmp 19,.tmp 20],argTypes:=#[3,3] },58, "minors.go:47",#[⟨5,.data⟩,⟨6,.data⟩,⟨3,.chain⟩],none⟩) (by kernel_rfl) rfl (fun K hK=>?_);go_simp;go_at_call 31;refine (zaB (n:=n) hn64 hkn).mono ?_;rintro e w23 ⟨rfl,b⟩;have lz23:=(show Below _ _ _ from b).size;replace GB:=hid (zBA GB.out b);rw [ECN.out];clear b;refine hK.out _ _ (fun _=>KB.out _ GB.out) ?_;clear hK;refine zAA (i:=8) (oi:=⟨some 22,.call { callee:=.builtin .max,args:=#[.tmp 17,.tmp 21],argTypes:=#[58,58] },58, "minors.go:47",#[⟨3,.data⟩,⟨7,.data⟩],none⟩) (v:=(.int .u64 (max (cm:Int) (cn:Int)))) rfl (by kernel_rfl) (fun _ _ _ h=>h) (Or.inl ⟨by rfl,?_⟩) (KB.out _ GB.out) ?_
 ·intro w hSw;(try dsimp only at hSw);go_simp
 simp only [Act.put,sIb,sC0,sC1];refine zCA (i:=9) (o:=⟨some 23,.binOp .gtr 58 (.tmp 22) (.const (.int .u64 64)) 58,4, "minors.go:47",#[⟨8,.data⟩],none⟩) (by kernel_rfl) rfl (fun K hK=>?_);go_simp;refine hK.out _ _ (fun h=>absurd h (by decide)) ?_;clear hK
 try simp only [Act.put]
 refine zFA (by kernel_rfl) ?_ _;have PR1:=hid (PR.out.step GB.out);have G1:=hid (zBA G.out GB.out);have r0:=PR1.out.at (i:=0) rfl;have r1:=PR1.out.at (i:=1) rfl;have r2:=PR1.out.at (i:=2) rfl;have f0:=PR1.out.fz 0;have f1:=PR1.out.fz 1;have f2:=PR1.out.fz 2;have FIN:Hid (zwC w 5 (.returned (.tuple #[zxH,.int .i64 5])) (put3 w23 (w.heap.size+1) (.int .i64 0) (.int .i64 0) (.slice none 0 0))):=⟨rfl,zSA G1.out (by omega) _ _ _⟩
 have PF:=hid (PR1.out.put3 (.int .i64 0) (.int .i64 0) (.slice none 0 0));clear KB GB x0 x1;go_wp2_with fail;exact bodyPost_ret (zIC Tryz.results15 PF.out _ (by rfl) (by rfl)) rfl FIN.out
theorem com_yes {w:World} {va:Value} {m n k kk:Nat} {zs:List Int} (ha:Mx w va m n zs kk) (hkk:64*kk+7≤4000000000) (hkm:k≤m) (hkn:k≤n) (hc1:cho m k≤64) (hc2:cho n k≤64) :
  Calls Tryz.prog 15 #[va,.int .i64 (k:Int)] w (zUB w (cho m k) (cho n k) (zF (cho m k) (cho n k) (cpE (en n zs) m n k)) (64*kk+7)):=by
 have M0:=ha;obtain ⟨aa,ca,rfl,hm64,hn64⟩:=ha.form;obtain ⟨la,hla⟩:∃la,m*n=la:=⟨_,rfl⟩
 rw [hla] at M0 ⊢;have ENN:=hid hla;obtain ⟨cm,hcm⟩:∃cm,cho m k=cm:=⟨_,rfl⟩
 obtain ⟨cn,hcn⟩:∃cn,cho n k=cn:=⟨_,rfl⟩
 have ECM:=hid hcm;have ECN:=hid hcn;have q1:¬(64:Int)<max (cm:Int) (cn:Int):=by omega
 have q1d:decide ((64:Int)<max (cm:Int) (cn:Int))=false:=decide_eq_false q1;have hc1':Hid (cm≤64):=by unfold Hid;omega
 have hc2':Hid (cn≤64):=by unfold Hid;omega
 obtain ⟨W0,hW⟩:∃W0,(w.alloc (matO m n (.slice aa la ca))).alloc mbox=W0:=⟨_,rfl⟩
 obtain ⟨b0,sz0⟩:=zjA w (matO m n (.slice aa la ca)) mbox;rw [hW] at b0 sz0;have PA:Hid (Cel W0 w.heap.size 24 (matc m n (.slice aa la ca))):=by
  unfold Hid;rw [←hW];exact (Cel.new w 24 (matc m n (.slice aa la ca))).step ((Below.refl _ _).alloc (Nat.le_refl _) _)
 have PR:Hid (Cel W0 (w.heap.size+1) 24 [.int .i64 0,.int .i64 0,.slice none 0 0]):=by
  unfold Hid;rw [←hW];have:=Cel.new (w.alloc (matO m n (.slice aa la ca))) 24 [.int .i64 0,.int .i64 0,.slice none 0 0]
  simpa using this
 have HC:=hid (zMH (M0.now b0) (kv:=(k:Int)) (by omega));have MA:=hid (M0.now b0);have G:=hid b0;have EW:=hid hW;have SZ:=hid sz0;clear ha M0 b0 hW hla sz0 hcm hcn;go_enter Tryz.func15,Tryz.ntmps15;go_wp2_with fail;rw [EW.out];clear EW;refine HC.out.mono ?_;rintro e w1 ⟨rfl,b⟩;replace MA:=hid (MA.out.now b);replace PA:=hid (PA.out.step b);replace PR:=hid (PR.out.step b);replace G:=hid (zBA G.out b);have lz1:Hid (w.heap.size+1<w1.heap.size):=by unfold Hid;have:=SZ.out;have:=b.size;omega
 have x0:=PA.out.at (i:=0) rfl;have x1:=PA.out.at (i:=1) rfl;clear HC b;go_wp2_with fail;have KB:Hid (∀w',Below w1.heap.size w1 w'→w'.cell? ⟨w.heap.size,0,none⟩=some (.int .i64 (m:Int))∧w'.cell? ⟨w.heap.size,1,none⟩=some (.int .i64 (n:Int))):=fun w' h=>⟨cnow h x0,cnow h x1⟩
 refine zDA (fun w'=>w'.cell? ⟨w.heap.size,0,none⟩=some (.int .i64 (m:Int))∧w'.cell? ⟨w.heap.size,1,none⟩=some (.int .i64 (n:Int))) 9 (by kernel_rfl) ?_;obtain ⟨D21,hD⟩:∃D21,w1.drew=D21:=⟨_,rfl⟩
 have GB:Hid (Below w1.heap.size w1 D21):=by unfold Hid;rw [←hD];exact (Below.refl _ _).drew
 rw [hD];clear hD;refine zAA (i:=0) (oi:=⟨some 14,.fieldAddr 24 (.tmp 2) 0,0, "minors.go:47",#[],none⟩) (v:=(.pointer (some ⟨w.heap.size,0,none⟩))) rfl (by kernel_rfl) (fun _ _ _ h=>h) (Or.inl ⟨by rfl,?_⟩) (KB.out _ GB.out) ?_
 ·intro w hSw;(try dsimp only at hSw);go_simp
 simp only [Act.put,sIb,sC0,sC1];refine zAA (i:=1) (oi:=⟨some 15,.load 3 (.tmp 14),3, "minors.go:47",#[⟨0,.data⟩],none⟩) (v:=(.int .i64 (m:Int))) rfl (by kernel_rfl) (fun _ _ _ h=>h) (Or.inl ⟨by rfl,?_⟩) (KB.out _ GB.out) ?_
 ·intro w hSw;(try dsimp only at hSw);go_simp
 simp only [Act.put,sIb,sC0,sC1];refine zAA (i:=2) (oi:=⟨some 16,.move (.tmp 1),3, "minors.go:47",#[],none⟩) (v:=(.int .i64 (k:Int))) rfl (by kernel_rfl) (fun _ _ _ h=>h) (Or.inl ⟨by rfl,?_⟩) (KB.out _ GB.out) ?_
 ·intro w hSw;(try dsimp only at hSw);go_simp
 simp only [Act.put,sIb,sC0,sC1];refine zAA (i:=4) (oi:=⟨some 18,.fieldAddr 24 (.tmp 2) 1,0, "minors.go:47",#[],none⟩) (v:=(.pointer (some ⟨w.heap.size,1,none⟩))) rfl (by kernel_rfl) (fun _ _ _ h=>h) (Or.inl ⟨by rfl,?_⟩) (KB.out _ GB.out) ?_
 ·intro w hSw;(try dsimp only at hSw);go_simp
 simp only [Act.put,sIb,sC0,sC1];refine zAA (i:=5) (oi:=⟨some 19,.load 3 (.tmp 18),3, "minors.go:47",#[⟨4,.data⟩],none⟩) (v:=(.int .i64 (n:Int))) rfl (by kernel_rfl) (fun _ _ _ h=>h) (Or.inl ⟨by rfl,?_⟩) (KB.out _ GB.out) ?_
 ·intro w hSw;(try dsimp only at hSw);go_simp
 simp only [Act.put,sIb,sC0,sC1];refine zAA (i:=6) (oi:=⟨some 20,.move (.tmp 1),3, "minors.go:47",#[],none⟩) (v:=(.int .i64 (k:Int))) rfl (by kernel_rfl) (fun _ _ _ h=>h) (Or.inl ⟨by rfl,?_⟩) (KB.out _ GB.out) ?_
 ·intro w hSw;(try dsimp only at hSw);go_simp
 simp only [Act.put,sIb,sC0,sC1];refine zCA (i:=3) (o:=⟨some 17,.call { callee:=.value (.func 31),args:=#[.tmp 15,.tmp 16],argTypes:=#[3,3] },58, "minors.go:47",#[⟨1,.data⟩,⟨2,.data⟩],none⟩) (by kernel_rfl) rfl (fun K hK=>?_);go_simp;go_at_call 31;refine ((show Calls _ _ _ _ _ from zaB (n:=m) hm64 hkm)).mono ?_;rintro e w22 ⟨rfl,b⟩;have lz22:=(show Below _ _ _ from b).size;replace GB:=hid (zBA GB.out b);rw [ECM.out];clear b;refine hK.out _ _ (fun _=>KB.out _ GB.out) ?_;clear hK;refine zCA (i:=7) (o:=⟨some 21,.call { callee:=.value (.func 31),args:=#[.tmp 19,.tmp 20],argTypes:=#[3,3] },58, "minors.go:47",#[⟨5,.data⟩,⟨6,.data⟩,⟨3,.chain⟩],none⟩) (by kernel_rfl) rfl (fun K hK=>?_);go_simp;go_at_call 31;refine (zaB (n:=n) hn64 hkn).mono ?_;rintro e w23 ⟨rfl,b⟩;have lz23:=(show Below _ _ _ from b).size;replace GB:=hid (zBA GB.out b);rw [ECN.out];clear b;refine hK.out _ _ (fun _=>KB.out _ GB.out) ?_;clear hK;refine zAA (i:=8) (oi:=⟨some 22,.call { callee:=.builtin .max,args:=#[.tmp 17,.tmp 21],argTypes:=#[58,58] },58, "minors.go:47",#[⟨3,.data⟩,⟨7,.data⟩],none⟩) (v:=(.int .u64 (max (cm:Int) (cn:Int)))) rfl (by kernel_rfl) (fun _ _ _ h=>h) (Or.inl ⟨by rfl,?_⟩) (KB.out _ GB.out) ?_
 ·intro w hSw;(try dsimp only at hSw);go_simp
 simp only [Act.put,sIb,sC0,sC1];refine zCA (i:=9) (o:=⟨some 23,.binOp .gtr 58 (.tmp 22) (.const (.int .u64 64)) 58,4, "minors.go:47",#[⟨8,.data⟩],none⟩) (by kernel_rfl) rfl (fun K hK=>?_);go_simp;refine hK.out _ _ (fun h=>absurd h (by decide)) ?_;clear hK
 try simp only [Act.put]
 refine zFA (by kernel_rfl) ?_ _;replace PA:=hid (PA.out.step GB.out);replace PR:=hid (PR.out.step GB.out);replace G:=hid (zBA G.out GB.out);have HA:=hid (compound_any (MA.out.now GB.out) hkk hkm hkn hc1 hc2);have lz2:Hid (w.heap.size+1<w23.heap.size):=by unfold Hid;have:=lz1.out;have:=GB.out.size;omega
 have x0:=PA.out.at (i:=0) rfl;have x1:=PA.out.at (i:=1) rfl;have x2:=PA.out.at (i:=2) rfl;clear KB GB MA;go_wp2_with fail;refine HA.out.mono ?_;rintro e w9 ⟨v9,ps,rfl,hown,hzms,b⟩;rw [zZI] at hzms;rw [ECM.out,ECN.out] at hzms;rw [ECM.out,ECN.out];have hlp:ps.length=cm*cn:=by rw [hzms.1,zVB]
 have hlq:cm*cn≤64*64:=Nat.mul_le_mul hc1'.out hc2'.out;have MC:Hid (Mc w9 (matv cm cn v9) cm cn (zF cm cn (cpE (en n zs) m n k)) (64*kk+7)):=⟨_,ps,rfl,(hown.prsT (by omega)).1,hzms.zcs,zVB _ _ _,hc1'.out,hc2'.out⟩
 obtain ⟨a9,q9,hf,-,-⟩:=MC.out.mx.form;obtain ⟨l9,hl9⟩:∃l9,cm*cn=l9:=⟨_,rfl⟩
 rw [hl9] at hf;obtain rfl:v9=.slice a9 l9 q9:=by simpa [matv] using hf
 replace PR:=hid (PR.out.step b);have r0:=PR.out.at (i:=0) rfl;have r1:=PR.out.at (i:=1) rfl;have r2:=PR.out.at (i:=2) rfl;have f0:=PR.out.fz 0;have f1:=PR.out.fz 1;have f2:=PR.out.fz 2;have FIN:Hid (zUB w (cho m k) (cho n k) (zF (cho m k) (cho n k) (cpE (en n zs) m n k)) (64*kk+7) (.returned (.tuple #[.agg #[.int .i64 (cm:Int),.int .i64 (cn:Int),.slice a9 l9 q9],.int .i64 0])) (put3 w9 (w.heap.size+1) (.int .i64 (cm:Int)) (.int .i64 (cn:Int)) (.slice a9 l9 q9))):=by
  rw [ECM.out,ECN.out];exact ⟨_,rfl,MC.out.wk PR.out _ _ _,zSA (zBA G.out b) (by omega) _ _ _⟩
 have PF:=hid (PR.out.put3 (.int .i64 (cm:Int)) (.int .i64 (cn:Int)) (.slice a9 l9 q9));clear HA b hown hzms hf hl9 hlp hlq MC x0 x1 x2 G PR;go_wp2_with fail;exact bodyPost_ret (zIC Tryz.results15 PF.out _ (by rfl) (by rfl)) rfl FIN.out

theorem zsE:∀(n:Nat) (f:Nat→Int),sumN n f=su n f
 | 0,f=>rfl
 | n+1,f=>by
  have e:sumN (n+1) f=sumN n f+f n:=by
   unfold sumN;rw [List.range_succ,List.map_append,zKC];simp [zsum]
  rw [e,zsE n f];rfl
theorem gram_en23 {r c:Nat} {zs:List Int} (h:zs.length=r*c):∀i j,i<r→j<r→en r (zbE r c zs) i j=gm23 c (en c zs) i j:=fun i j hi hj=>by
 show (zbE r c zs).getD (i*r+j) 0=_
 unfold zbE;rw [prod_at h hi hj,zsE];exact zJA fun t ht=>by rw [turn_at hj ht];rfl
theorem zrC {r c t:Nat} {zs:List Int} (h:zs.length=r*c) (ht:t≤r):det t (en r (zbE r c zs))=det t (gm23 c (en c zs)):=zEA fun i j hi hj=>gram_en23 h i j (by omega) (by omega)
theorem zxF (f:List Nat→Int):∀L,sl23 f L=zsum (L.map f)
 | []=>rfl
 | l :: L=>by
  show f l+sl23 f L=_
  rw [zxF f L];rfl
theorem zRF:∀k,cho k k=1
 | 0=>rfl
 | k+1=>by
  show cho k k+cho k (k+1)=1
  rw [zRF k,zOD k (k+1) (by omega)]
theorem sts_all23 (k:Nat):(zXA k k).getD 0 []=List.range k:=(zaD (Nat.le_refl k)).1
theorem comp_sq23 {r c:Nat} (A:Nat→Nat→Int):dotv (zF (cho r r) (cho c r) (cpE A r c r)) (zF (cho r r) (cho c r) (cpE A r c r))=det r (gm23 c A):=by
 rw [zJF,zxF];unfold dotv;rw [zVB,zRF,Nat.one_mul];have hl:(lx c r c).length=cho c r:=zBF c c r
 congr 1
 refine List.ext_getElem (by simp [hl]) fun i h1 h2=>?_
 have hi:i<cho c r:=by simpa using h1
 have e1:(zF 1 (cho c r) (cpE A r c r)).getD i 0=mn23 A r ((lx c r c).getD i []):=by
  have h:=ziI (m:=1) (n:=cho c r) (i:=0) (j:=i) (F:=cpE A r c r) (by omega) hi;rw [Nat.zero_mul,Nat.zero_add] at h;rw [h];unfold cpE mn23;rw [sts_all23];exact zEA fun a b ha hb=>by
   simp only [List.getD_eq_getElem?_getD,List.getElem?_range ha,Option.getD_some]
   try rfl
 simp only [List.getElem_map,List.getElem_range];rw [e1];simp [show i<(lx c r c).length by omega]
def okV (md:Region.Mode) (ops:Array Oper) (n:Nat):Array Bool→List (Nat×Value)→Bool
 | _,[]=>true
 | l,(i,_) :: r=>(Region.noSelect ops && Region.free md ops l i && (Region.ready md ops l).contains i && Region.sinkB md ops n && Region.chainB md ops n && decide (n<ops.size) && decide (i<n) && zzH md ops n l) && okV md ops n (l.setIfInBounds i true) r
def lisV:Array Bool→List (Nat×Value)→Array Bool
 | l,[]=>l
 | l,(i,_) :: r=>lisV (l.setIfInBounds i true) r
def actV (ops:Array Oper):Act→List (Nat×Value)→Act
 | a,[]=>a
 | a,(i,v) :: r=>match ops[i]? with
  | some o=>actV ops (a.put o.dst v) r
  | none=>a
def zzD (P:Program) (ops:Array Oper) (S:World→Prop):Act→List (Nat×Value)→Prop
 | _,[]=>True
 | a,(i,v) :: r=>match ops[i]? with
  | some o=>YieldsIf P ops S o v a∧zzD P ops S (a.put o.dst v) r
  | none=>False
section
variable {P:Program} {ops:Array Oper} {Q:Exit→Act→World→Prop} {md:Region.Mode} {S:World→Prop} {n:Nat}
theorem zyC (hQ:∀c d v a w,Q (.panic c) (a.put d v) w→Q (.panic c) a w):∀(vs:List (Nat×Value)) (fuel:Nat) (listed:Array Bool) (a:Act) (w:World),okV md ops n listed vs=true→zzD P ops S a vs→S w→zvA P md ops Q S n fuel (lisV listed vs) (actV ops a vs) w→zvA P md ops Q S n (fuel+vs.length) listed a w
 | [],fuel,listed,a,w,_,_,_,h=>h
 | (i,v) :: r,fuel,listed,a,w,hok,hy,hS,h=>by
  rw [okV,Bool.and_eq_true] at hok;cases e:ops[i]? with
  | none=>simp only [zzD,e] at hy
  | some o =>
   simp only [zzD,e] at hy;simp only [actV,e,lisV] at h;exact zAA (fuel:=fuel+r.length) e hok.1 (fun c a w hq=>hQ c _ _ a w hq) hy.1 hS (zyC hQ r fuel _ _ w hok.2 hy.2 hS h)
theorem zVD {fuel:Nat} {listed:Array Bool} {a:Act} {w:World} (vs:List (Nat×Value)) (m:Nat) (hy:zzD P ops S a vs) (hS:S w)
  (h:zvA P md ops Q S n fuel (lisV listed vs) (actV ops a vs) w) (hm:vs.length=m:=by rfl) (hok:okV md ops n listed vs=true:=by kernel_rfl) (hQ:∀c d v a w,Q (.panic c) (a.put d v) w→Q (.panic c) a w:=by (intro _ d _ _ _ h;cases d <;> exact h)):zvA P md ops Q S n (fuel+m) listed a w:=by
 subst hm;exact zyC hQ vs fuel listed a w hok hy hS h
end
theorem sI9 {α:Type _} (l:List α) (i:Nat) (a:α):l.toArray.setIfInBounds i a=(l.set i a).toArray:=List.setIfInBounds_toArray l i a
theorem s09 {α:Type _} {a b:α} {l:List α}:(a :: l).set 0 b=b :: l:=List.set_cons_zero
theorem s19 {α:Type _} {a b:α} {n:Nat} {l:List α}:(a :: l).set (n+1) b=a :: l.set n b:=List.set_cons_succ
theorem g09 {α:Type _} {a:α} {l:List α}:(a :: l)[0]?=some a:=List.getElem?_cons_zero
theorem g19 {α:Type _} {a:α} {n:Nat} {l:List α}:(a :: l)[n+1]?=l[n]?:=List.getElem?_cons_succ
theorem gA9 {α:Type _} {l:List α} {n:Nat}:l.toArray[n]?=l[n]?:=List.getElem?_toArray
end Go.Proofs.YtjnokjgbeploaaaGreat
