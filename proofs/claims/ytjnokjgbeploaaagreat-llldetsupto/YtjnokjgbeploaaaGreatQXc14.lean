import Derived.Test.YtjnokjgbeploaaaGreatQCz14ToTm14
import Derived.Test.YtjnokjgbeploaaaGreatQTailXToWk9
import Derived.Test.YtjnokjgbeploaaaGreatQUnit9ToBw8
import Derived.Deep.CutRange
set_option maxRecDepth 100000
set_option maxHeartbeats 6400000
set_option linter.unusedVariables false
set_option linter.unusedSimpArgs false
namespace Go.Proofs.YtjnokjgbeploaaaGreat
open Go.RowKit
def exO (F:Nat→Nat→Int) (d:Int) (p q:Nat) (x:Nat→Nat→Int) (i:Nat):Nat→Nat→Int:=fun r c=>if r<i∧r≠p then exch F d p q x r c else F r c
def exI (F:Nat→Nat→Int) (d:Int) (p q:Nat) (x:Nat→Nat→Int) (i j:Nat):Nat→Nat→Int:=fun r c=>if r=i then (if c<j then x i c else F i c) else exO F d p q x i r c
section
variable {F:Nat→Nat→Int} {d:Int} {p q:Nat} {x:Nat→Nat→Int} {i j r c:Nat}
theorem exO_zero:exO F d p q x 0 r c=F r c:=if_neg (by omega)
theorem exO_next:exO F d p q x (p+1) r c=exO F d p q x p r c:=by
 unfold exO
 by_cases h:r<p∧r≠p
 ·rw [if_pos h,if_pos (by omega)]
 ·rw [if_neg h,if_neg (by omega)]
theorem exI_zero:exI F d p q x i 0 r c=exO F d p q x i r c:=by
 unfold exI
 by_cases h:r=i
 ·subst h;rw [if_pos rfl,if_neg (by omega)];unfold exO;rw [if_neg (by omega)]
 ·rw [if_neg h]
theorem exI_put:up2 (exI F d p q x i j) i j (x i j) r c=exI F d p q x i (j+1) r c:=by
 unfold up2 exI
 by_cases h:r=i
 ·subst h
  rw [if_pos rfl,if_pos rfl]
  by_cases e:c=j
  ·subst e;rw [if_pos ⟨rfl,rfl⟩,if_pos (by omega)]
  ·rw [if_neg (by omega)]
   by_cases l:c<j
   ·rw [if_pos l,if_pos (by omega)]
   ·rw [if_neg l,if_neg (by omega)]
 ·rw [if_neg (by omega),if_neg h,if_neg h]
theorem exI_end {n:Nat} (hip:i≠p) (hc:c<n):up2 (exI F d p q x i n) i q (- F i q) r c=exO F d p q x (i+1) r c:=by
 unfold up2
 by_cases h:r=i
 ·subst h
  have e0:exO F d p q x (r+1) r c=exch F d p q x r c:=if_pos ⟨by omega,hip⟩;rw [e0];unfold exch;rw [if_neg hip]
  by_cases e:c=q
  ·rw [if_pos ⟨rfl,e⟩,if_pos e]
  ·rw [if_neg (fun h=>e h.2),if_neg e]
   unfold exI;rw [if_pos rfl,if_pos hc]
 ·rw [if_neg (by omega)]
  unfold exI;rw [if_neg h];unfold exO
  by_cases l:r<i∧r≠p
  ·rw [if_pos l,if_pos (by omega)]
  ·rw [if_neg l,if_neg (by omega)]
theorem exO_end {m:Nat} (hr:r<m):up2 (exO F d p q x m) p q d r c=exch F d p q x r c:=by
 unfold up2 exO
 by_cases h:r=p
 ·subst h
  rw [if_neg (c:=r<m∧r≠r) (by omega)];unfold exch;rw [if_pos rfl]
  by_cases e:c=q
  ·subst e;rw [if_pos ⟨rfl,rfl⟩,if_pos rfl]
  ·rw [if_neg (by omega),if_neg e]
 ·rw [if_neg (by omega),if_pos ⟨hr,h⟩]
theorem exO_same (h:i≤r):exO F d p q x i r c=F r c:=if_neg (by omega)
theorem exO_p:exO F d p q x i p c=F p c:=if_neg (by omega)
end
theorem zRI {l:List Nat} {p y:Nat} (h:p<l.length) (t:Nat):nf14 (l.set p y) t=upF (nf14 l) p (y:Int) t:=by
 show (((l.set p y).getD t 0:Nat):Int)=if t=p then (y:Int) else ((l.getD t 0:Nat):Int)
 by_cases e:t=p
 ·subst e;rw [if_pos rfl];simp [h]
 ·rw [if_neg e];simp [List.getElem?_set_ne (Ne.symm e)]
def XoH (Wo:World) (ga m n:Nat) (F:Nat→Nat→Int) (d:Int) (p q:Nat) (x:Nat→Nat→Int) (k gk:Nat) (s:Value) (wx:World):Prop :=
 ∃i:Nat,s=.int .i64 (i:Int)∧i≤m∧gk=m-i∧AZ wx ga (zF m n (exO F d p q x i)) k∧zLA (· = ga) Wo wx
def XiH (Wi:World) (ga m n:Nat) (F:Nat→Nat→Int) (d:Int) (p q:Nat) (x:Nat→Nat→Int) (i k gk:Nat) (s:Value) (wx:World):Prop :=
 ∃j:Nat,s=.int .i64 (j:Int)∧j≤n∧gk=n-j∧AZ wx ga (zF m n (exI F d p q x i j)) k∧zLA (· = ga) Wi wx
def LnB (W wx:World) (s1 s2 v x y:Value):Prop:=∃bk,s1=v∧s2=.pointer (some ⟨bk,0,none⟩)∧W.heap.size≤bk∧Below W.heap.size W wx∧Duo wx bk x y
def Xchd (w:World) (bt ga gb go m n:Nat) (bs os:List Nat) (F:Nat→Nat→Int) (d:Int) (rk k p q:Nat) (x:Nat→Nat→Int) (e:Ending) (w':World):Prop :=
 e=.returned (.tuple #[])∧TabM w' bt ga gb go m n (bs.set p (os.getD q 0)) (os.set q (bs.getD p 0)) (exch F d p q x) (F p q) rk k∧zLA (fun b=>b=ga∨b=gb∨b=go∨b=bt) w w'
theorem exchange_any {w:World} {bt ga gb go m n:Nat} {bs os:List Nat} {F:Nat→Nat→Int} {d:Int} {rk k p q:Nat} {x:Nat→Nat→Int} (hM:TabM w bt ga gb go m n bs os F d rk k) (hp:p<m) (hq:q<n) (hd:d≠0)
  (hx:∀i j,i<m→j<n→i≠p→F p q*F i j-F i q*F p j=d*x i j) (hf:∀i j,i<m→j<n→((x i j).natAbs:Int)<pw k) (hk:k≤274877906944) :
  Calls Tryz.prog 79 #[.pointer (some ⟨bt,0,none⟩),.int .i64 (p:Int),.int .i64 (q:Int)] w (Xchd w bt ga gb go m n bs os F d rk k p q x):=by
 obtain ⟨ab,cb,nd,ad,ld,cd,hcel,hzd,hcb,hbb⟩:=hM.box;obtain ⟨rfl,rr,hbas⟩:=hbb (by omega);have harr:=hM.arr;have hoth:=hM.oth;have HM:=hid hM;have hm64:=hM.hm;have hn64:=hM.hn;obtain ⟨mn,hmn⟩:∃mn,m*n=mn:=⟨_,rfl⟩
 rw [hmn] at hcel;have hmn4:mn≤4096:=by rw [←hmn];exact Nat.mul_le_mul hm64 hn64
 have EMN:=hid hmn;have KS:Hid (∀wx,Ty 39 w wx→Cel wx bt 103 (tbL m n rk (.slice (some ⟨ga,0,none⟩) mn mn) (.slice (some ⟨gb,0,none⟩) m cb) (.slice (some ⟨go,0,none⟩) n n) (.bool nd) (.slice ad ld cd))∧Cel wx gb 3 (wf m (nf14 bs) ++ rr)∧Cel wx go 3 (wf n (nf14 os))):=fun wx ht=>⟨hcel.ty13 ht (by decide),hbas.ty13 ht (by decide),hoth.ty13 ht (by decide)⟩
 have ZD:=hid hzd;have AR:=hid harr;have HX:=hid hx;have HF:=hid hf;have HD:=hid hd;have HK:=hid hk;have hltpq:p*n+q<mn:=by rw [←hmn];exact ziG hp hq
 obtain ⟨np,ap,lp,cp,p0,p1,-,-,zp⟩:=harr.at hp hq;have ZP:=hid zp;have hw1:IntKind.i64.wrap ((p:Int)*(n:Int))=((p*n:Nat):Int):=zXC (i:=p) (c:=n) (by omega) (by omega);obtain ⟨pn,hpn⟩:∃pn,p*n=pn:=⟨_,rfl⟩
 rw [hpn] at hltpq hw1 p0 p1;have EPN:=hid hpn;have hpn4:pn≤4096:=by omega
 have hw2:IntKind.i64.wrap ((pn:Int)+(q:Int))=((pn+q:Nat):Int):=by rw [zaA] <;> omega
 obtain ⟨pq,hpq⟩:∃pq,pn+q=pq:=⟨_,rfl⟩
 rw [hpq] at hltpq hw2 p0 p1;have EPQ:=hid hpq;have hltpq':(pq:Int)<(mn:Int):=by omega
 have hbt:=hcel.blk;have hga:=harr.blk;have hgb:=hbas.blk;have hgo:=hoth.blk;have NBT:Hid (bt≠ga∧bt≠gb∧bt≠go∧ga≠gb∧ga≠go):=by
  obtain ⟨ps,h1,-⟩:=harr;refine ⟨fun e=>?_,fun e=>?_,fun e=>?_,fun e=>?_,fun e=>?_⟩
  ·subst e;have:=(show w.heap[bt]?=_ from hcel).symm.trans h1.1;simp at this
  ·subst e;have:=(show w.heap[bt]?=_ from hcel).symm.trans hbas;simp at this
  ·subst e;have:=(show w.heap[bt]?=_ from hcel).symm.trans hoth;simp at this
  ·subst e;have:=(show w.heap[ga]?=_ from h1.1).symm.trans hbas;simp at this
  ·subst e;have:=(show w.heap[ga]?=_ from h1.1).symm.trans hoth;simp at this
 have t1:=hcel.at (i:=1) rfl;have t2:=hcel.at (i:=2) rfl;have t5:=hcel.at (i:=5) rfl;have t6:=hcel.at (i:=6) rfl;clear hM hcel hzd hbas harr hoth hx hf hd hk hpn hpq hmn zp hbb;go_enter Tryz.func79,Tryz.ntmps79;go_wp2_with fail
 go_cut [7,8] from 15 (fun s1 s2 wx=>Bx2 w wx s1 s2 (.bool nd) (.slice ad ld cd) (.bool np) (.slice ap lp cp))
 case first =>
  have KB:Hid (∀w',Below w.heap.size w w'→w'.cell? ⟨bt,2,none⟩=some (.slice (some ⟨ga,0,none⟩) mn mn)∧w'.cell? ⟨bt,5,none⟩=some (.bool nd)∧w'.cell? ⟨bt,6,none⟩=some (.slice ad ld cd)∧w'.cell? ⟨ga,pq*2,none⟩=some (.bool np)∧w'.cell? ⟨ga,pq*2+1,none⟩=some (.slice ap lp cp)):=fun w' h=>⟨cnow h t2,cnow h t5,cnow h t6,cnow h p0,cnow h p1⟩
  refine zDA (fun w'=>w'.cell? ⟨bt,2,none⟩=some (.slice (some ⟨ga,0,none⟩) mn mn)∧w'.cell? ⟨bt,5,none⟩=some (.bool nd)∧w'.cell? ⟨bt,6,none⟩=some (.slice ad ld cd)∧w'.cell? ⟨ga,pq*2,none⟩=some (.bool np)∧w'.cell? ⟨ga,pq*2+1,none⟩=some (.slice ap lp cp)) 19 (by kernel_rfl) ?_;obtain ⟨D1,hD⟩:∃D1,w.drew=D1:=⟨_,rfl⟩
  have GB:Hid (Below w.heap.size w D1):=by unfold Hid;rw [←hD];exact (Below.refl _ _).drew
  rw [hD];clear hD;have GZ:Hid (w.heap.size≤D1.heap.size):=GB.out.size;refine zAA (i:=0) (oi:=⟨some 20,.move (.tmp 0),84, "table.go:62",#[],none⟩) (v:=(.pointer (some ⟨bt,0,none⟩))) rfl (by kernel_rfl) (fun _ _ _ h=>h) (Or.inl ⟨by rfl,?_⟩) (KB.out _ GB.out) ?_
  ·intro w hSw;(try dsimp only at hSw);go_simp
  simp only [Act.put,sIb,sC0,sC1];refine zAA (i:=1) (oi:=⟨some 21,.nilCheck (.tmp 20),0, "table.go:62",#[⟨0,.data⟩],none⟩) (v:=(.pointer (some ⟨bt,0,none⟩))) rfl (by kernel_rfl) (fun _ _ _ h=>h) (Or.inl ⟨by rfl,?_⟩) (KB.out _ GB.out) ?_
  ·intro w hSw;(try dsimp only at hSw);go_simp
  simp only [Act.put,sIb,sC0,sC1];refine zAA (i:=2) (oi:=⟨some 22,.fieldAddr 103 (.tmp 21) 3,0, "table.go:62",#[⟨1,.data⟩],none⟩) (v:=(.pointer (some ⟨bt,5,none⟩))) rfl (by kernel_rfl) (fun _ _ _ h=>h) (Or.inl ⟨by rfl,?_⟩) (KB.out _ GB.out) ?_
  ·intro w hSw;(try dsimp only at hSw);go_simp
  simp only [Act.put,sIb,sC0,sC1];refine zAA (i:=3) (oi:=⟨some 23,.load 39 (.tmp 22),39, "table.go:62",#[⟨2,.data⟩],none⟩) (v:=(.agg #[.bool nd,.slice ad ld cd])) rfl (by kernel_rfl) (fun _ _ _ h=>h) (Or.inl ⟨by rfl,?_⟩) (KB.out _ GB.out) ?_
  ·intro w hSw;(try dsimp only at hSw);go_simp
  simp only [Act.put,sIb,sC0,sC1];refine zAA (i:=4) (oi:=⟨some 24,.move (.tmp 0),84, "table.go:62",#[⟨18,.gcOnly .lateStores⟩],none⟩) (v:=(.pointer (some ⟨bt,0,none⟩))) rfl (by kernel_rfl) (fun _ _ _ h=>h) (Or.inl ⟨by rfl,?_⟩) (KB.out _ GB.out) ?_
  ·intro w hSw;(try dsimp only at hSw);go_simp
  simp only [Act.put,sIb,sC0,sC1];refine zAA (i:=5) (oi:=⟨some 25,.nilCheck (.tmp 24),0, "table.go:62",#[⟨4,.data⟩,⟨18,.gcOnly .lateStores⟩],none⟩) (v:=(.pointer (some ⟨bt,0,none⟩))) rfl (by kernel_rfl) (fun _ _ _ h=>h) (Or.inl ⟨by rfl,?_⟩) (KB.out _ GB.out) ?_
  ·intro w hSw;(try dsimp only at hSw);go_simp
  simp only [Act.put,sIb,sC0,sC1];refine zAA (i:=6) (oi:=⟨some 26,.fieldAddr 103 (.tmp 25) 0,0, "table.go:62",#[⟨5,.data⟩,⟨18,.gcOnly .lateStores⟩],none⟩) (v:=(.pointer (some ⟨bt,0,none⟩))) rfl (by kernel_rfl) (fun _ _ _ h=>h) (Or.inl ⟨by rfl,?_⟩) (KB.out _ GB.out) ?_
  ·intro w hSw;(try dsimp only at hSw);go_simp
  simp only [Act.put,sIb,sC0,sC1];refine zAA (i:=7) (oi:=⟨some 27,.fieldAddr 24 (.tmp 26) 2,0, "table.go:62",#[⟨6,.data⟩,⟨18,.gcOnly .lateStores⟩],none⟩) (v:=(.pointer (some ⟨bt,2,none⟩))) rfl (by kernel_rfl) (fun _ _ _ h=>h) (Or.inl ⟨by rfl,?_⟩) (KB.out _ GB.out) ?_
  ·intro w hSw;(try dsimp only at hSw);go_simp
  simp only [Act.put,sIb,sC0,sC1];refine zAA (i:=8) (oi:=⟨some 28,.load 22 (.tmp 27),22, "table.go:62",#[⟨7,.data⟩,⟨18,.gcOnly .lateStores⟩],none⟩) (v:=(.slice (some ⟨ga,0,none⟩) mn mn)) rfl (by kernel_rfl) (fun _ _ _ h=>h) (Or.inl ⟨by rfl,?_⟩) (KB.out _ GB.out) ?_
  ·intro w hSw;(try dsimp only at hSw);go_simp
  simp only [Act.put,sIb,sC0,sC1];refine zAA (i:=9) (oi:=⟨some 29,.move (.tmp 1),3, "table.go:62",#[⟨18,.gcOnly .lateStores⟩],none⟩) (v:=(.int .i64 (p:Int))) rfl (by kernel_rfl) (fun _ _ _ h=>h) (Or.inl ⟨by rfl,?_⟩) (KB.out _ GB.out) ?_
  ·intro w hSw;(try dsimp only at hSw);go_simp
  simp only [Act.put,sIb,sC0,sC1];refine zAA (i:=10) (oi:=⟨some 30,.move (.tmp 6),3, "table.go:62",#[⟨18,.gcOnly .lateStores⟩],none⟩) (v:=(.int .i64 (n:Int))) rfl (by kernel_rfl) (fun _ _ _ h=>h) (Or.inl ⟨by rfl,?_⟩) (KB.out _ GB.out) ?_
  ·intro w hSw;(try dsimp only at hSw);go_simp
  simp only [Act.put,sIb,sC0,sC1];refine zAA (i:=11) (oi:=⟨some 31,.binOp .mul 3 (.tmp 29) (.tmp 30) 3,3, "table.go:62",#[⟨9,.data⟩,⟨10,.data⟩,⟨18,.gcOnly .lateStores⟩],none⟩) (v:=(.int .i64 (pn:Int))) rfl (by kernel_rfl) (fun _ _ _ h=>h) (Or.inl ⟨by rfl,?_⟩) (KB.out _ GB.out) ?_
  ·intro w hSw;(try dsimp only at hSw);go_simp
  simp only [Act.put,sIb,sC0,sC1];refine zAA (i:=12) (oi:=⟨some 32,.move (.tmp 2),3, "table.go:62",#[⟨18,.gcOnly .lateStores⟩],none⟩) (v:=(.int .i64 (q:Int))) rfl (by kernel_rfl) (fun _ _ _ h=>h) (Or.inl ⟨by rfl,?_⟩) (KB.out _ GB.out) ?_
  ·intro w hSw;(try dsimp only at hSw);go_simp
  simp only [Act.put,sIb,sC0,sC1];refine zAA (i:=13) (oi:=⟨some 33,.binOp .add 3 (.tmp 31) (.tmp 32) 3,3, "table.go:62",#[⟨11,.data⟩,⟨12,.data⟩,⟨18,.gcOnly .lateStores⟩],none⟩) (v:=(.int .i64 (pq:Int))) rfl (by kernel_rfl) (fun _ _ _ h=>h) (Or.inl ⟨by rfl,?_⟩) (KB.out _ GB.out) ?_
  ·intro w hSw;(try dsimp only at hSw);go_simp
  simp only [Act.put,sIb,sC0,sC1];refine zAA (i:=14) (oi:=⟨some 34,.indexAddr 22 (.tmp 28) (.tmp 33),0, "table.go:62",#[⟨8,.data⟩,⟨13,.data⟩,⟨18,.gcOnly .lateStores⟩],none⟩) (v:=(.pointer (some ⟨ga,pq*2,none⟩))) rfl (by kernel_rfl) (fun _ _ _ h=>h) (Or.inl ⟨by rfl,?_⟩) (KB.out _ GB.out) ?_
  ·intro w hSw;(try dsimp only at hSw);go_simp
  simp only [Act.put,sIb,sC0,sC1];refine zAA (i:=15) (oi:=⟨some 35,.load 39 (.tmp 34),39, "table.go:62",#[⟨14,.data⟩,⟨18,.gcOnly .lateStores⟩],none⟩) (v:=(.agg #[.bool np,.slice ap lp cp])) rfl (by kernel_rfl) (fun _ _ _ h=>h) (Or.inl ⟨by rfl,?_⟩) (KB.out _ GB.out) ?_
  ·intro w hSw;(try dsimp only at hSw);go_simp
  simp only [Act.put,sIb,sC0,sC1];refine zsA (i:=16) (j:=17) (oi:=⟨some 7,.alloc 39,0, "table.go:62",#[],none⟩) (oj:=⟨some 8,.alloc 39,0, "table.go:62",#[],none⟩) (by kernel_rfl) rfl rfl (fun K hK=>?_) (fun K hK=>?_)
  ·skip
   go_simp;obtain ⟨V2,hW⟩:∃V2,D1.alloc zbox=V2:=⟨_,rfl⟩
   obtain ⟨b,sz2⟩:=alo1 D1 zbox;rw [hW] at b sz2;replace GB:=hid (zBA GB.out b);have DP:Hid (Duo V2 D1.heap.size (.bool false) (.slice none 0 0)):=by unfold Hid;rw [←hW];exact Duo.new D1 _ _
   have SP:=hid (show w.heap.size≤D1.heap.size from GZ.out);replace GZ:Hid (w.heap.size≤V2.heap.size):=GB.out.size;clear sz2;rw [hW];clear hW b;refine hK.out _ _ (fun _=>KB.out _ GB.out) ?_;clear hK
   try simp only [Act.put]
   refine zCA (i:=17) (o:=⟨some 8,.alloc 39,0, "table.go:62",#[],none⟩) (by kernel_rfl) rfl (fun K hK=>?_);go_simp;obtain ⟨V3,hW⟩:∃V3,V2.alloc zbox=V3:=⟨_,rfl⟩
   obtain ⟨b,sz3⟩:=alo1 V2 zbox;rw [hW] at b sz3;replace GB:=hid (zBA GB.out b);have DT:Hid (Duo V3 V2.heap.size (.bool false) (.slice none 0 0)):=by unfold Hid;rw [←hW];exact Duo.new V2 _ _
   have ST:=hid (show w.heap.size≤V2.heap.size from GZ.out);replace GZ:Hid (w.heap.size≤V3.heap.size):=GB.out.size;have NE:Hid (D1.heap.size≠V2.heap.size):=by unfold Hid;have:=DP.out.blk;omega
   replace DP:=hid (DP.out.step b);clear sz3;rw [hW];clear hW b;refine hK.out _ _ (fun _=>KB.out _ GB.out) ?_;clear hK
   try simp only [Act.put]
   refine zCA (i:=18) (o:=⟨none,.store 39 (.tmp 7) (.tmp 23),0, "table.go:62",#[⟨16,.data⟩,⟨3,.data⟩,⟨0,.phase⟩,⟨1,.phase⟩,⟨2,.phase⟩,⟨3,.phase⟩,⟨4,.textOnly .lateStores⟩,⟨5,.textOnly .lateStores⟩,⟨6,.textOnly .lateStores⟩,⟨7,.textOnly .lateStores⟩,⟨8,.textOnly .lateStores⟩,⟨9,.textOnly .lateStores⟩,⟨10,.textOnly .lateStores⟩,⟨11,.textOnly .lateStores⟩,⟨12,.textOnly .lateStores⟩,⟨13,.textOnly .lateStores⟩,⟨14,.textOnly .lateStores⟩,⟨15,.textOnly .lateStores⟩,⟨16,.phase⟩,⟨17,.phase⟩],none⟩) (by kernel_rfl) rfl (fun K hK=>?_);have e0:=DP.out.c0;have e1:=DP.out.c1;have e2:=DP.out.fz 0;have e3:=DP.out.fz 1;go_simp;clear e0 e1 e2 e3;obtain ⟨V4,hW⟩:∃V4,((V3.setCell ⟨D1.heap.size,0,none⟩ (.bool nd)).setCell ⟨D1.heap.size,1,none⟩ (.slice ad ld cd))=V4:=⟨_,rfl⟩
   replace GB:Hid (Below w.heap.size w V4):=by unfold Hid;rw [←hW];exact bset (bset GB.out SP.out) SP.out
   have QP:Hid (Duo V4 D1.heap.size (.bool nd) (.slice ad ld cd)):=by unfold Hid;rw [←hW];exact DP.out.set _ _
   replace DT:Hid (Duo V4 V2.heap.size (.bool false) (.slice none 0 0)):=by unfold Hid;rw [←hW];exact DT.out.box (by have:=NE.out;omega) _ _
   clear DP;rw [hW];clear hW;refine hK.out _ _ (fun _=>KB.out _ GB.out) ?_;clear hK
   try simp only [Act.put]
   refine zCA (i:=19) (o:=⟨none,.store 39 (.tmp 8) (.tmp 35),0, "table.go:62",#[⟨17,.data⟩,⟨15,.data⟩,⟨18,.chain⟩,⟨0,.phase⟩,⟨1,.phase⟩,⟨2,.phase⟩,⟨3,.phase⟩,⟨4,.phase⟩,⟨5,.phase⟩,⟨6,.phase⟩,⟨7,.phase⟩,⟨8,.phase⟩,⟨9,.phase⟩,⟨10,.phase⟩,⟨11,.phase⟩,⟨12,.phase⟩,⟨13,.phase⟩,⟨14,.phase⟩,⟨15,.phase⟩,⟨16,.phase⟩,⟨17,.phase⟩,⟨18,.phase⟩],none⟩) (by kernel_rfl) rfl (fun K hK=>?_);have e0:=DT.out.c0;have e1:=DT.out.c1;have e2:=DT.out.fz 0;have e3:=DT.out.fz 1;go_simp;clear e0 e1 e2 e3;obtain ⟨V5,hW⟩:∃V5,((V4.setCell ⟨V2.heap.size,0,none⟩ (.bool np)).setCell ⟨V2.heap.size,1,none⟩ (.slice ap lp cp))=V5:=⟨_,rfl⟩
   replace GB:Hid (Below w.heap.size w V5):=by unfold Hid;rw [←hW];exact bset (bset GB.out ST.out) ST.out
   have QT:Hid (Duo V5 V2.heap.size (.bool np) (.slice ap lp cp)):=by unfold Hid;rw [←hW];exact DT.out.set _ _
   replace QP:Hid (Duo V5 D1.heap.size (.bool nd) (.slice ad ld cd)):=by unfold Hid;rw [←hW];exact QP.out.box (by have:=NE.out;omega) _ _
   clear DT;rw [hW];clear hW;refine hK.out _ _ (fun h=>absurd h (by decide)) ?_;clear hK
   try simp only [Act.put]
   refine zFA (by kernel_rfl) ?_ _;have FN4:Hid (Bx2 w V5 (.pointer (some ⟨D1.heap.size,0,none⟩)) (.pointer (some ⟨V2.heap.size,0,none⟩)) (.bool nd) (.slice ad ld cd) (.bool np) (.slice ap lp cp)):=⟨_,_,rfl,rfl,SP.out,ST.out,by have:=NE.out;omega,QP.out,QT.out,GB.out⟩
   clear GB GZ QP QT SP ST NE;go_wp2_with fail;go_meet;exact FN4.out
  ·skip
   go_simp;obtain ⟨V6,hW⟩:∃V6,D1.alloc zbox=V6:=⟨_,rfl⟩
   obtain ⟨b,sz6⟩:=alo1 D1 zbox;rw [hW] at b sz6;replace GB:=hid (zBA GB.out b);have DT:Hid (Duo V6 D1.heap.size (.bool false) (.slice none 0 0)):=by unfold Hid;rw [←hW];exact Duo.new D1 _ _
   have ST:=hid (show w.heap.size≤D1.heap.size from GZ.out);replace GZ:Hid (w.heap.size≤V6.heap.size):=GB.out.size;clear sz6;rw [hW];clear hW b;refine hK.out _ _ (fun _=>KB.out _ GB.out) ?_;clear hK
   try simp only [Act.put]
   refine zCA (i:=16) (o:=⟨some 7,.alloc 39,0, "table.go:62",#[],none⟩) (by kernel_rfl) rfl (fun K hK=>?_);go_simp;obtain ⟨V7,hW⟩:∃V7,V6.alloc zbox=V7:=⟨_,rfl⟩
   obtain ⟨b,sz7⟩:=alo1 V6 zbox;rw [hW] at b sz7;replace GB:=hid (zBA GB.out b);have DP:Hid (Duo V7 V6.heap.size (.bool false) (.slice none 0 0)):=by unfold Hid;rw [←hW];exact Duo.new V6 _ _
   have SP:=hid (show w.heap.size≤V6.heap.size from GZ.out);replace GZ:Hid (w.heap.size≤V7.heap.size):=GB.out.size;have NE:Hid (D1.heap.size≠V6.heap.size):=by unfold Hid;have:=DT.out.blk;omega
   replace DT:=hid (DT.out.step b);clear sz7;rw [hW];clear hW b;refine hK.out _ _ (fun _=>KB.out _ GB.out) ?_;clear hK
   try simp only [Act.put]
   refine zCA (i:=18) (o:=⟨none,.store 39 (.tmp 7) (.tmp 23),0, "table.go:62",#[⟨16,.data⟩,⟨3,.data⟩,⟨0,.phase⟩,⟨1,.phase⟩,⟨2,.phase⟩,⟨3,.phase⟩,⟨4,.textOnly .lateStores⟩,⟨5,.textOnly .lateStores⟩,⟨6,.textOnly .lateStores⟩,⟨7,.textOnly .lateStores⟩,⟨8,.textOnly .lateStores⟩,⟨9,.textOnly .lateStores⟩,⟨10,.textOnly .lateStores⟩,⟨11,.textOnly .lateStores⟩,⟨12,.textOnly .lateStores⟩,⟨13,.textOnly .lateStores⟩,⟨14,.textOnly .lateStores⟩,⟨15,.textOnly .lateStores⟩,⟨16,.phase⟩,⟨17,.phase⟩],none⟩) (by kernel_rfl) rfl (fun K hK=>?_);have e0:=DP.out.c0;have e1:=DP.out.c1;have e2:=DP.out.fz 0;have e3:=DP.out.fz 1;go_simp;clear e0 e1 e2 e3;obtain ⟨V8,hW⟩:∃V8,((V7.setCell ⟨V6.heap.size,0,none⟩ (.bool nd)).setCell ⟨V6.heap.size,1,none⟩ (.slice ad ld cd))=V8:=⟨_,rfl⟩
   replace GB:Hid (Below w.heap.size w V8):=by unfold Hid;rw [←hW];exact bset (bset GB.out SP.out) SP.out
   have QP:Hid (Duo V8 V6.heap.size (.bool nd) (.slice ad ld cd)):=by unfold Hid;rw [←hW];exact DP.out.set _ _
   replace DT:Hid (Duo V8 D1.heap.size (.bool false) (.slice none 0 0)):=by unfold Hid;rw [←hW];exact DT.out.box (by have:=NE.out;omega) _ _
   clear DP;rw [hW];clear hW;refine hK.out _ _ (fun _=>KB.out _ GB.out) ?_;clear hK
   try simp only [Act.put]
   refine zCA (i:=19) (o:=⟨none,.store 39 (.tmp 8) (.tmp 35),0, "table.go:62",#[⟨17,.data⟩,⟨15,.data⟩,⟨18,.chain⟩,⟨0,.phase⟩,⟨1,.phase⟩,⟨2,.phase⟩,⟨3,.phase⟩,⟨4,.phase⟩,⟨5,.phase⟩,⟨6,.phase⟩,⟨7,.phase⟩,⟨8,.phase⟩,⟨9,.phase⟩,⟨10,.phase⟩,⟨11,.phase⟩,⟨12,.phase⟩,⟨13,.phase⟩,⟨14,.phase⟩,⟨15,.phase⟩,⟨16,.phase⟩,⟨17,.phase⟩,⟨18,.phase⟩],none⟩) (by kernel_rfl) rfl (fun K hK=>?_);have e0:=DT.out.c0;have e1:=DT.out.c1;have e2:=DT.out.fz 0;have e3:=DT.out.fz 1;go_simp;clear e0 e1 e2 e3;obtain ⟨V9,hW⟩:∃V9,((V8.setCell ⟨D1.heap.size,0,none⟩ (.bool np)).setCell ⟨D1.heap.size,1,none⟩ (.slice ap lp cp))=V9:=⟨_,rfl⟩
   replace GB:Hid (Below w.heap.size w V9):=by unfold Hid;rw [←hW];exact bset (bset GB.out ST.out) ST.out
   have QT:Hid (Duo V9 D1.heap.size (.bool np) (.slice ap lp cp)):=by unfold Hid;rw [←hW];exact DT.out.set _ _
   replace QP:Hid (Duo V9 V6.heap.size (.bool nd) (.slice ad ld cd)):=by unfold Hid;rw [←hW];exact QP.out.box (by have:=NE.out;omega) _ _
   clear DT;rw [hW];clear hW;refine hK.out _ _ (fun h=>absurd h (by decide)) ?_;clear hK
   try simp only [Act.put]
   refine zFA (by kernel_rfl) ?_ _;have FN4:Hid (Bx2 w V9 (.pointer (some ⟨V6.heap.size,0,none⟩)) (.pointer (some ⟨D1.heap.size,0,none⟩)) (.bool nd) (.slice ad ld cd) (.bool np) (.slice ap lp cp)):=⟨_,_,rfl,rfl,SP.out,ST.out,by have:=NE.out;omega,QP.out,QT.out,GB.out⟩
   clear GB GZ QP QT SP ST NE;go_wp2_with fail;go_meet;exact FN4.out
 case rest =>
 rename World=>Wo
 obtain ⟨bd,bp,rfl,rfl,hbd,hbp,hdp,dd_,dp_,b⟩:=hcut;have DD:=hid dd_;have DP:=hid dp_;have TO:Hid (Ty 39 w Wo):=Ty.of b;have BO:=hid b;replace ZD:=hid (ZD.out.now b);replace ZP:=hid (ZP.out.now b);have H0:Hid (XoH Wo ga m n F d p q x k m (.int .i64 0) Wo):=⟨0,rfl,Nat.zero_le _,by omega,by rw [zwB fun i j _ _=>exO_zero];exact AR.out.step b,zLA.refl _ _⟩
 have AO:=hid (AR.out.step b);have y0:=(KS.out _ TO.out).1.at (i:=0) rfl;have hgbd:bd≠ga:=by omega
 have hgbp:bp≠ga:=by omega
 clear b dd_ dp_ t1 t2 t5 t6 p0 p1 AR;go_wp2_with fail;clear y0
 go_loopg [41] m (fun gk s41 wx=>XoH Wo ga m n F d p q x k gk s41 wx)
 case atStart=>exact H0.out
 case round =>
  clear H0;obtain ⟨i,rfl,him,hgk,haz,htw⟩:=hrel;have AZ0:=hid haz;have TW:=hid htw;have HG:=hid hgk;have TY:Hid (Ty 39 w wr):=TO.out.trans (AO.out.touch htw);have DD1:Hid (Duo wr bd (.bool nd) (.slice ad ld cd)):=(htw.block bd DD.out.blk hgbd).trans DD.out;have DP1:Hid (Duo wr bp (.bool np) (.slice ap lp cp)):=(htw.block bp DP.out.blk hgbp).trans DP.out;have ZD1:=hid (ZD.out.ty (AO.out.touch htw) (by decide));have ZP1:=hid (ZP.out.ty (AO.out.touch htw) (by decide));clear haz htw hgk
  by_cases hlt:i<m
  ·have hlt':(i:Int)<(m:Int):=by omega
   have hwi:=zNA (i:=i) (by omega);have HMM:Hid (m-(i+1)<gk):=by unfold Hid;rw [HG.out];omega
   clear HG
   by_cases hip:i=p
   ·have hipb:((i:Int) == (p:Int))=true:=by simp [hip]
    have hipi:(i:Int)=(p:Int):=by omega
    have HN1:Hid (XoH Wo ga m n F d p q x k (m-(i+1)) (.int .i64 ((i+1:Nat):Int)) wr):=⟨i+1,rfl,by omega,rfl,by
     rw [zwB (G:=exO F d p q x i) fun r c _ _=>by rw [hip];exact exO_next];exact AZ0.out,TW.out⟩
    clear AZ0 TW TY DD1 DP1 ZD1 ZP1 hip hipi;go_wp2_with fail;go_roundg (m-(i+1))
    case rel=>exact HN1.out
    case measure=>exact HMM.out
   ·have hipb:((i:Int) == (p:Int))=false:=by simp;omega
    have hipi:¬(i:Int)=(p:Int):=by omega
    obtain ⟨nt,at0,lt,ct,u0,u1,-,-,zt⟩:=AZ0.out.at hlt hq;rw [exO_same (Nat.le_refl _)] at zt;have ZT:=hid zt;have hliq:i*n+q<mn:=by rw [←EMN.out];exact ziG hlt hq
    have hwin:IntKind.i64.wrap ((i:Int)*(n:Int))=((i*n:Nat):Int):=zXC (i:=i) (c:=n) (by omega) (by omega);have hwin2:IntKind.i64.wrap (((i:Int)+1)*(n:Int))=(((i+1)*n:Nat):Int):=by
     have:=zXC (i:=i+1) (c:=n) (by omega) (by omega);rw [Int.natCast_add] at this;exact this
    have hend:(i+1)*n≤mn:=by rw [←EMN.out];exact Nat.mul_le_mul_right n hlt
    have hsucc:(i+1)*n=i*n+n:=Nat.succ_mul i n;obtain ⟨i_n,hin⟩:∃i_n,i*n=i_n:=⟨_,rfl⟩
    rw [hsucc] at hwin2 hend;rw [hin] at hliq hwin hwin2 hend u0 u1;have EIN:=hid hin;have hwiq:IntKind.i64.wrap ((i_n:Int)+(q:Int))=((i_n+q:Nat):Int):=by rw [zaA] <;> omega
    obtain ⟨iq,hiq⟩:∃iq,i_n+q=iq:=⟨_,rfl⟩
    rw [hiq] at hliq hwiq u0 u1;have EIQ:=hid hiq;obtain ⟨ie,hie⟩:∃ie,i_n+n=ie:=⟨_,rfl⟩
    rw [hie] at hwin2 hend;have hliq':(iq:Int)<(mn:Int):=by omega
    have hi1:(i_n:Int)≤(ie:Int):=by omega
    have hi2:(ie:Int)≤(mn:Int):=by omega
    have hi3:¬mn=i_n:=by omega
    have hlen:ie-i_n=n:=by omega
    have EIE:=hid hie;have y2:=(KS.out _ TY.out).1.at (i:=2) rfl;clear zt hsucc hin hiq hie;go_wp2_with fail
    go_cut [10,11] from 42 to 116 (fun s1 s2 wx=>LnB wr wx s1 s2 (.slice (some ⟨ga,i_n*2,none⟩) n (mn-i_n)) (.bool nt) (.slice at0 lt ct))
    case first =>
     have KB:Hid (∀w',Below wr.heap.size wr w'→w'.cell? ⟨bt,2,none⟩=some (.slice (some ⟨ga,0,none⟩) mn mn)∧w'.cell? ⟨ga,iq*2,none⟩=some (.bool nt)∧w'.cell? ⟨ga,iq*2+1,none⟩=some (.slice at0 lt ct)):=fun w' h=>⟨cnow h y2,cnow h u0,cnow h u1⟩
     refine zDA (fun w'=>w'.cell? ⟨bt,2,none⟩=some (.slice (some ⟨ga,0,none⟩) mn mn)∧w'.cell? ⟨ga,iq*2,none⟩=some (.bool nt)∧w'.cell? ⟨ga,iq*2+1,none⟩=some (.slice at0 lt ct)) 27 (by kernel_rfl) ?_;obtain ⟨D21,hD⟩:∃D21,wr.drew=D21:=⟨_,rfl⟩
     have GB:Hid (Below wr.heap.size wr D21):=by unfold Hid;rw [←hD];exact (Below.refl _ _).drew
     rw [hD];clear hD;have GZ:Hid (wr.heap.size≤D21.heap.size):=GB.out.size;refine zAA (i:=0) (oi:=⟨some 47,.move (.tmp 0),84, "table.go:67",#[],none⟩) (v:=(.pointer (some ⟨bt,0,none⟩))) rfl (by kernel_rfl) (fun _ _ _ h=>h) (Or.inl ⟨by rfl,?_⟩) (KB.out _ GB.out) ?_
     ·intro w hSw;(try dsimp only at hSw);go_simp
     simp only [Act.put,sIb,sC0,sC1];refine zAA (i:=1) (oi:=⟨some 48,.nilCheck (.tmp 47),0, "table.go:67",#[⟨0,.data⟩],none⟩) (v:=(.pointer (some ⟨bt,0,none⟩))) rfl (by kernel_rfl) (fun _ _ _ h=>h) (Or.inl ⟨by rfl,?_⟩) (KB.out _ GB.out) ?_
     ·intro w hSw;(try dsimp only at hSw);go_simp
     simp only [Act.put,sIb,sC0,sC1];refine zAA (i:=2) (oi:=⟨some 49,.fieldAddr 103 (.tmp 48) 0,0, "table.go:67",#[⟨1,.data⟩],none⟩) (v:=(.pointer (some ⟨bt,0,none⟩))) rfl (by kernel_rfl) (fun _ _ _ h=>h) (Or.inl ⟨by rfl,?_⟩) (KB.out _ GB.out) ?_
     ·intro w hSw;(try dsimp only at hSw);go_simp
     simp only [Act.put,sIb,sC0,sC1];refine zAA (i:=3) (oi:=⟨some 50,.fieldAddr 24 (.tmp 49) 2,0, "table.go:67",#[⟨2,.data⟩],none⟩) (v:=(.pointer (some ⟨bt,2,none⟩))) rfl (by kernel_rfl) (fun _ _ _ h=>h) (Or.inl ⟨by rfl,?_⟩) (KB.out _ GB.out) ?_
     ·intro w hSw;(try dsimp only at hSw);go_simp
     simp only [Act.put,sIb,sC0,sC1];refine zAA (i:=4) (oi:=⟨some 51,.load 22 (.tmp 50),22, "table.go:67",#[⟨3,.data⟩],none⟩) (v:=(.slice (some ⟨ga,0,none⟩) mn mn)) rfl (by kernel_rfl) (fun _ _ _ h=>h) (Or.inl ⟨by rfl,?_⟩) (KB.out _ GB.out) ?_
     ·intro w hSw;(try dsimp only at hSw);go_simp
     simp only [Act.put,sIb,sC0,sC1];refine zAA (i:=5) (oi:=⟨some 52,.move (.tmp 9),3, "table.go:67",#[],none⟩) (v:=(.int .i64 (i:Int))) rfl (by kernel_rfl) (fun _ _ _ h=>h) (Or.inl ⟨by rfl,?_⟩) (KB.out _ GB.out) ?_
     ·intro w hSw;(try dsimp only at hSw);go_simp
     simp only [Act.put,sIb,sC0,sC1];refine zAA (i:=6) (oi:=⟨some 53,.move (.tmp 6),3, "table.go:67",#[],none⟩) (v:=(.int .i64 (n:Int))) rfl (by kernel_rfl) (fun _ _ _ h=>h) (Or.inl ⟨by rfl,?_⟩) (KB.out _ GB.out) ?_
     ·intro w hSw;(try dsimp only at hSw);go_simp
     simp only [Act.put,sIb,sC0,sC1];refine zAA (i:=7) (oi:=⟨some 54,.binOp .mul 3 (.tmp 52) (.tmp 53) 3,3, "table.go:67",#[⟨5,.data⟩,⟨6,.data⟩],none⟩) (v:=(.int .i64 (i_n:Int))) rfl (by kernel_rfl) (fun _ _ _ h=>h) (Or.inl ⟨by rfl,?_⟩) (KB.out _ GB.out) ?_
     ·intro w hSw;(try dsimp only at hSw);go_simp
     simp only [Act.put,sIb,sC0,sC1];refine zAA (i:=8) (oi:=⟨some 55,.move (.tmp 9),3, "table.go:67",#[],none⟩) (v:=(.int .i64 (i:Int))) rfl (by kernel_rfl) (fun _ _ _ h=>h) (Or.inl ⟨by rfl,?_⟩) (KB.out _ GB.out) ?_
     ·intro w hSw;(try dsimp only at hSw);go_simp
     simp only [Act.put,sIb,sC0,sC1];refine zAA (i:=9) (oi:=⟨some 56,.binOp .add 3 (.tmp 55) (.const (.int .i64 1)) 3,3, "table.go:67",#[⟨8,.data⟩],none⟩) (v:=(.int .i64 ((i+1:Nat):Int))) rfl (by kernel_rfl) (fun _ _ _ h=>h) (Or.inl ⟨by rfl,?_⟩) (KB.out _ GB.out) ?_
     ·intro w hSw;(try dsimp only at hSw);go_simp
     simp only [Act.put,sIb,sC0,sC1];refine zAA (i:=10) (oi:=⟨some 57,.move (.tmp 6),3, "table.go:67",#[],none⟩) (v:=(.int .i64 (n:Int))) rfl (by kernel_rfl) (fun _ _ _ h=>h) (Or.inl ⟨by rfl,?_⟩) (KB.out _ GB.out) ?_
     ·intro w hSw;(try dsimp only at hSw);go_simp
     simp only [Act.put,sIb,sC0,sC1];refine zAA (i:=11) (oi:=⟨some 58,.binOp .mul 3 (.tmp 56) (.tmp 57) 3,3, "table.go:67",#[⟨9,.data⟩,⟨10,.data⟩],none⟩) (v:=(.int .i64 (ie:Int))) rfl (by kernel_rfl) (fun _ _ _ h=>h) (Or.inl ⟨by rfl,?_⟩) (KB.out _ GB.out) ?_
     ·intro w hSw;(try dsimp only at hSw);go_simp
     simp only [Act.put,sIb,sC0,sC1];refine zAA (i:=12) (oi:=⟨some 59,.slice 22 (.tmp 51) (some (.tmp 54)) (some (.tmp 58)) none,22, "table.go:67",#[⟨4,.data⟩,⟨7,.data⟩,⟨11,.data⟩],none⟩) (v:=(.slice (some ⟨ga,i_n*2,none⟩) n (mn-i_n))) rfl (by kernel_rfl) (fun _ _ _ h=>h) (Or.inl ⟨by rfl,?_⟩) (KB.out _ GB.out) ?_
     ·intro w hSw;(try dsimp only at hSw);go_simp
     simp only [Act.put,sIb,sC0,sC1];refine zAA (i:=13) (oi:=⟨some 60,.move (.tmp 0),84, "table.go:67",#[⟨26,.gcOnly .lateStores⟩],none⟩) (v:=(.pointer (some ⟨bt,0,none⟩))) rfl (by kernel_rfl) (fun _ _ _ h=>h) (Or.inl ⟨by rfl,?_⟩) (KB.out _ GB.out) ?_
     ·intro w hSw;(try dsimp only at hSw);go_simp
     simp only [Act.put,sIb,sC0,sC1];refine zAA (i:=14) (oi:=⟨some 61,.nilCheck (.tmp 60),0, "table.go:67",#[⟨13,.data⟩,⟨26,.gcOnly .lateStores⟩],none⟩) (v:=(.pointer (some ⟨bt,0,none⟩))) rfl (by kernel_rfl) (fun _ _ _ h=>h) (Or.inl ⟨by rfl,?_⟩) (KB.out _ GB.out) ?_
     ·intro w hSw;(try dsimp only at hSw);go_simp
     simp only [Act.put,sIb,sC0,sC1];refine zAA (i:=15) (oi:=⟨some 62,.fieldAddr 103 (.tmp 61) 0,0, "table.go:67",#[⟨14,.data⟩,⟨26,.gcOnly .lateStores⟩],none⟩) (v:=(.pointer (some ⟨bt,0,none⟩))) rfl (by kernel_rfl) (fun _ _ _ h=>h) (Or.inl ⟨by rfl,?_⟩) (KB.out _ GB.out) ?_
     ·intro w hSw;(try dsimp only at hSw);go_simp
     simp only [Act.put,sIb,sC0,sC1];refine zAA (i:=16) (oi:=⟨some 63,.fieldAddr 24 (.tmp 62) 2,0, "table.go:67",#[⟨15,.data⟩,⟨26,.gcOnly .lateStores⟩],none⟩) (v:=(.pointer (some ⟨bt,2,none⟩))) rfl (by kernel_rfl) (fun _ _ _ h=>h) (Or.inl ⟨by rfl,?_⟩) (KB.out _ GB.out) ?_
     ·intro w hSw;(try dsimp only at hSw);go_simp
     simp only [Act.put,sIb,sC0,sC1];refine zAA (i:=17) (oi:=⟨some 64,.load 22 (.tmp 63),22, "table.go:67",#[⟨16,.data⟩,⟨26,.gcOnly .lateStores⟩],none⟩) (v:=(.slice (some ⟨ga,0,none⟩) mn mn)) rfl (by kernel_rfl) (fun _ _ _ h=>h) (Or.inl ⟨by rfl,?_⟩) (KB.out _ GB.out) ?_
     ·intro w hSw;(try dsimp only at hSw);go_simp
     simp only [Act.put,sIb,sC0,sC1];refine zAA (i:=18) (oi:=⟨some 65,.move (.tmp 9),3, "table.go:67",#[⟨26,.gcOnly .lateStores⟩],none⟩) (v:=(.int .i64 (i:Int))) rfl (by kernel_rfl) (fun _ _ _ h=>h) (Or.inl ⟨by rfl,?_⟩) (KB.out _ GB.out) ?_
     ·intro w hSw;(try dsimp only at hSw);go_simp
     simp only [Act.put,sIb,sC0,sC1];refine zAA (i:=19) (oi:=⟨some 66,.move (.tmp 6),3, "table.go:67",#[⟨26,.gcOnly .lateStores⟩],none⟩) (v:=(.int .i64 (n:Int))) rfl (by kernel_rfl) (fun _ _ _ h=>h) (Or.inl ⟨by rfl,?_⟩) (KB.out _ GB.out) ?_
     ·intro w hSw;(try dsimp only at hSw);go_simp
     simp only [Act.put,sIb,sC0,sC1];refine zAA (i:=20) (oi:=⟨some 67,.binOp .mul 3 (.tmp 65) (.tmp 66) 3,3, "table.go:67",#[⟨18,.data⟩,⟨19,.data⟩,⟨26,.gcOnly .lateStores⟩],none⟩) (v:=(.int .i64 (i_n:Int))) rfl (by kernel_rfl) (fun _ _ _ h=>h) (Or.inl ⟨by rfl,?_⟩) (KB.out _ GB.out) ?_
     ·intro w hSw;(try dsimp only at hSw);go_simp
     simp only [Act.put,sIb,sC0,sC1];refine zAA (i:=21) (oi:=⟨some 68,.move (.tmp 2),3, "table.go:67",#[⟨26,.gcOnly .lateStores⟩],none⟩) (v:=(.int .i64 (q:Int))) rfl (by kernel_rfl) (fun _ _ _ h=>h) (Or.inl ⟨by rfl,?_⟩) (KB.out _ GB.out) ?_
     ·intro w hSw;(try dsimp only at hSw);go_simp
     simp only [Act.put,sIb,sC0,sC1];refine zAA (i:=22) (oi:=⟨some 69,.binOp .add 3 (.tmp 67) (.tmp 68) 3,3, "table.go:67",#[⟨20,.data⟩,⟨21,.data⟩,⟨26,.gcOnly .lateStores⟩],none⟩) (v:=(.int .i64 (iq:Int))) rfl (by kernel_rfl) (fun _ _ _ h=>h) (Or.inl ⟨by rfl,?_⟩) (KB.out _ GB.out) ?_
     ·intro w hSw;(try dsimp only at hSw);go_simp
     simp only [Act.put,sIb,sC0,sC1];refine zAA (i:=23) (oi:=⟨some 70,.indexAddr 22 (.tmp 64) (.tmp 69),0, "table.go:67",#[⟨17,.data⟩,⟨22,.data⟩,⟨26,.gcOnly .lateStores⟩],none⟩) (v:=(.pointer (some ⟨ga,iq*2,none⟩))) rfl (by kernel_rfl) (fun _ _ _ h=>h) (Or.inl ⟨by rfl,?_⟩) (KB.out _ GB.out) ?_
     ·intro w hSw;(try dsimp only at hSw);go_simp
     simp only [Act.put,sIb,sC0,sC1];refine zAA (i:=24) (oi:=⟨some 71,.load 39 (.tmp 70),39, "table.go:67",#[⟨23,.data⟩,⟨26,.gcOnly .lateStores⟩],none⟩) (v:=(.agg #[.bool nt,.slice at0 lt ct])) rfl (by kernel_rfl) (fun _ _ _ h=>h) (Or.inl ⟨by rfl,?_⟩) (KB.out _ GB.out) ?_
     ·intro w hSw;(try dsimp only at hSw);go_simp
     simp only [Act.put,sIb,sC0,sC1];refine zCA (i:=25) (o:=⟨some 11,.alloc 39,0, "table.go:67",#[],none⟩) (by kernel_rfl) rfl (fun K hK=>?_);go_simp;obtain ⟨V22,hW⟩:∃V22,D21.alloc zbox=V22:=⟨_,rfl⟩
     obtain ⟨b,sz22⟩:=alo1 D21 zbox;rw [hW] at b sz22;replace GB:=hid (zBA GB.out b);have DP:Hid (Duo V22 D21.heap.size (.bool false) (.slice none 0 0)):=by unfold Hid;rw [←hW];exact Duo.new D21 _ _
     have SP:=hid (show wr.heap.size≤D21.heap.size from GZ.out);replace GZ:Hid (wr.heap.size≤V22.heap.size):=GB.out.size;clear sz22;rw [hW];clear hW b;refine hK.out _ _ (fun _=>KB.out _ GB.out) ?_;clear hK
     try simp only [Act.put]
     refine zAA (i:=26) (oi:=⟨some 10,.assign (.tmp 59),22, "table.go:67",#[⟨12,.data⟩,⟨0,.phase⟩,⟨1,.phase⟩,⟨2,.phase⟩,⟨3,.phase⟩,⟨4,.phase⟩,⟨5,.phase⟩,⟨6,.phase⟩,⟨7,.phase⟩,⟨8,.phase⟩,⟨9,.phase⟩,⟨10,.phase⟩,⟨11,.phase⟩,⟨12,.phase⟩,⟨13,.textOnly .lateStores⟩,⟨14,.textOnly .lateStores⟩,⟨15,.textOnly .lateStores⟩,⟨16,.textOnly .lateStores⟩,⟨17,.textOnly .lateStores⟩,⟨18,.textOnly .lateStores⟩,⟨19,.textOnly .lateStores⟩,⟨20,.textOnly .lateStores⟩,⟨21,.textOnly .lateStores⟩,⟨22,.textOnly .lateStores⟩,⟨23,.textOnly .lateStores⟩,⟨24,.textOnly .lateStores⟩,⟨25,.phase⟩],none⟩) (v:=(.slice (some ⟨ga,i_n*2,none⟩) n (mn-i_n))) rfl (by kernel_rfl) (fun _ _ _ h=>h) (Or.inl ⟨by rfl,?_⟩) (KB.out _ GB.out) ?_
     ·intro w hSw;(try dsimp only at hSw);go_simp
     simp only [Act.put,sIb,sC0,sC1];refine zCA (i:=27) (o:=⟨none,.store 39 (.tmp 11) (.tmp 71),0, "table.go:67",#[⟨25,.data⟩,⟨24,.data⟩,⟨26,.chain⟩,⟨0,.phase⟩,⟨1,.phase⟩,⟨2,.phase⟩,⟨3,.phase⟩,⟨4,.phase⟩,⟨5,.phase⟩,⟨6,.phase⟩,⟨7,.phase⟩,⟨8,.phase⟩,⟨9,.phase⟩,⟨10,.phase⟩,⟨11,.phase⟩,⟨12,.phase⟩,⟨13,.phase⟩,⟨14,.phase⟩,⟨15,.phase⟩,⟨16,.phase⟩,⟨17,.phase⟩,⟨18,.phase⟩,⟨19,.phase⟩,⟨20,.phase⟩,⟨21,.phase⟩,⟨22,.phase⟩,⟨23,.phase⟩,⟨24,.phase⟩,⟨25,.phase⟩,⟨26,.phase⟩],none⟩) (by kernel_rfl) rfl (fun K hK=>?_);have e0:=DP.out.c0;have e1:=DP.out.c1;have e2:=DP.out.fz 0;have e3:=DP.out.fz 1;go_simp;clear e0 e1 e2 e3;obtain ⟨V23,hW⟩:∃V23,((V22.setCell ⟨D21.heap.size,0,none⟩ (.bool nt)).setCell ⟨D21.heap.size,1,none⟩ (.slice at0 lt ct))=V23:=⟨_,rfl⟩
     replace GB:Hid (Below wr.heap.size wr V23):=by unfold Hid;rw [←hW];exact bset (bset GB.out SP.out) SP.out
     have QP:Hid (Duo V23 D21.heap.size (.bool nt) (.slice at0 lt ct)):=by unfold Hid;rw [←hW];exact DP.out.set _ _
     clear DP;rw [hW];clear hW;refine hK.out _ _ (fun h=>absurd h (by decide)) ?_;clear hK
     try simp only [Act.put]
     refine zFA (by kernel_rfl) ?_ _;have FN4:Hid (LnB wr V23 (.slice (some ⟨ga,i_n*2,none⟩) n (mn-i_n)) (.pointer (some ⟨D21.heap.size,0,none⟩)) (.slice (some ⟨ga,i_n*2,none⟩) n (mn-i_n)) (.bool nt) (.slice at0 lt ct)):=⟨_,rfl,rfl,SP.out,GB.out,QP.out⟩
     clear GB GZ QP SP;go_wp2_with fail;go_meet;exact FN4.out
    case rest =>
    rename World=>Wi
    obtain ⟨bt_,rfl,rfl,hbt_,b,dt_⟩:=hcut;have DT:=hid dt_;have TI:Hid (Ty 39 w Wi):=TY.out.trans (Ty.of b);have TWI:Hid (zLA (· = ga) Wo Wi):=TW.out.trans (.ofBelow b);replace DD1:=hid (DD1.out.step b);replace DP1:=hid (DP1.out.step b);replace ZD1:=hid (ZD1.out.now b);replace ZP1:=hid (ZP1.out.now b);replace ZT:=hid (ZT.out.now b);have hgaw:=AZ0.out.blk;have hgbt:bt_≠ga:=by omega
    have AI:=hid (AZ0.out.step b);have H1:Hid (XiH Wi ga m n F d p q x i k n (.int .i64 0) Wi):=⟨0,rfl,Nat.zero_le _,by omega,by rw [zwB fun r c _ _=>exI_zero];exact AI.out,zLA.refl _ _⟩
    have y2':=(KS.out _ TI.out).1.at (i:=2) rfl;have hwp2:IntKind.i64.wrap (((p:Int)+1)*(n:Int))=(((p+1)*n:Nat):Int):=by
     have:=zXC (i:=p+1) (c:=n) (by omega) (by omega);rw [Int.natCast_add] at this;exact this
    have hwp1:=zNA (i:=p) (by omega);have hpe:(p+1)*n=pn+n:=by rw [Nat.succ_mul,EPN.out]
    rw [hpe] at hwp2;have hpend:pn+n≤mn:=by rw [←EMN.out,←EPN.out,←Nat.succ_mul];exact Nat.mul_le_mul_right n hp
    obtain ⟨pe,hpe2⟩:∃pe,pn+n=pe:=⟨_,rfl⟩
    rw [hpe2] at hwp2 hpend;have hp1:(pn:Int)≤(pe:Int):=by omega
    have hp2:(pe:Int)≤(mn:Int):=by omega
    have hp3:¬mn=pn:=by omega
    have hplen:pe-pn=n:=by omega
    clear b dt_ u0 u1 y2 AZ0 TW TY hpe hpe2 hgaw hi1 hi2 hi3 hlen hwin hwin2 hwiq hliq';go_wp2_with fail;clear y2'
    go_loopg [86] n (fun gk s86 wx=>XiH Wi ga m n F d p q x i k gk s86 wx)
    case atStart=>exact H1.out
    case round =>
     clear H1;obtain ⟨j,rfl,hjn,hgk,haz,htw⟩:=hrel;have AZ1:=hid haz;have TW2:=hid htw;have HG:=hid hgk;have TYI:Hid (Ty 39 Wi wr):=AI.out.touch htw;have DD2:Hid (Duo wr bd (.bool nd) (.slice ad ld cd)):=(htw.block bd DD1.out.blk hgbd).trans DD1.out;have DP2:Hid (Duo wr bp (.bool np) (.slice ap lp cp)):=(htw.block bp DP1.out.blk hgbp).trans DP1.out;have DT2:Hid (Duo wr bt_ (.bool nt) (.slice at0 lt ct)):=(htw.block bt_ DT.out.blk hgbt).trans DT.out;have ZD2:=hid (ZD1.out.ty TYI.out (by decide));have ZP2:=hid (ZP1.out.ty TYI.out (by decide));have ZT2:=hid (ZT.out.ty TYI.out (by decide));clear haz htw hgk
     by_cases hlt2:j<n
     ·have hlt2':(j:Int)<(n:Int):=by omega
      have hwj:=zNA (i:=j) (by omega);have HM2:Hid (n-(j+1)<gk):=by unfold Hid;rw [HG.out];omega
      obtain ⟨nn,an,ln,cn,v0,v1,-,-,zn⟩:=AZ1.out.at hp hlt2;rw [show exI F d p q x i j p j=F p j by unfold exI;rw [if_neg (fun e=>hip e.symm)];exact exO_p] at zn;rw [EPN.out,Nat.add_mul] at v0 v1;obtain ⟨V1,hV⟩:∃V1,wr.alloc (duo (.bool nn) (.slice an ln cn))=V1:=⟨_,rfl⟩
      obtain ⟨b,sz1⟩:=alo1 wr (duo (.bool nn) (.slice an ln cn));rw [hV] at b sz1;have PN:Hid (Duo V1 wr.heap.size (.bool nn) (.slice an ln cn)):=by unfold Hid;rw [←hV];exact Duo.new wr _ _
      have AR1:=hid (AZ1.out.step b);have ZN:=hid (zn.now b);obtain ⟨nx,ax,lx,cx,x0,x1,-,-,zx⟩:=AR1.out.at hlt hlt2;rw [show exI F d p q x i j i j=F i j by unfold exI;rw [if_pos rfl,if_neg (by omega)]] at zx;rw [EIN.out,Nat.add_mul] at x0 x1;have ZX:=hid zx;have TV1:Hid (zLA (· = ga) Wi V1):=TW2.out.trans (.ofBelow b);have ZP:=hid (ZP2.out.now b);have ZT3:=hid (ZT2.out.now b);have ZD3:=hid (ZD2.out.now b);have DD3:=hid (DD2.out.step b);have p0:=(DP2.out.step b).c0;have p1:=(DP2.out.step b).c1;have t0:=(DT2.out.step b).c0;have t1:=(DT2.out.step b).c1;have n0:=PN.out.c0;have n1:=PN.out.c1;have EV:=hid hV;clear zn zx hV b sz1 PN AZ1 TW2 HG DD2 DP2 DT2 ZD2 ZP2 ZT2 TYI;go_wp2_with fail;rw [EV.out];clear EV v0 v1
      go_cut [14] from 87 to 110 (fun s1 wx=>MetX V1 wx s1 (F p q*F i j-F i q*F p j) (k+k+1))
      case first =>
       have KB:Hid (∀w',Below V1.heap.size V1 w'→w'.cell? ⟨bp,0,none⟩=some (.bool np)∧w'.cell? ⟨bp,1,none⟩=some (.slice ap lp cp)∧w'.cell? ⟨bt_,0,none⟩=some (.bool nt)∧w'.cell? ⟨bt_,1,none⟩=some (.slice at0 lt ct)∧w'.cell? ⟨ga,i_n*2+j*2,none⟩=some (.bool nx)∧w'.cell? ⟨ga,i_n*2+j*2+1,none⟩=some (.slice ax lx cx)∧w'.cell? ⟨wr.heap.size,0,none⟩=some (.bool nn)∧w'.cell? ⟨wr.heap.size,1,none⟩=some (.slice an ln cn)):=fun w' h=>⟨cnow h p0,cnow h p1,cnow h t0,cnow h t1,cnow h x0,cnow h x1,cnow h n0,cnow h n1⟩
       refine zDA (fun w'=>w'.cell? ⟨bp,0,none⟩=some (.bool np)∧w'.cell? ⟨bp,1,none⟩=some (.slice ap lp cp)∧w'.cell? ⟨bt_,0,none⟩=some (.bool nt)∧w'.cell? ⟨bt_,1,none⟩=some (.slice at0 lt ct)∧w'.cell? ⟨ga,i_n*2+j*2,none⟩=some (.bool nx)∧w'.cell? ⟨ga,i_n*2+j*2+1,none⟩=some (.slice ax lx cx)∧w'.cell? ⟨wr.heap.size,0,none⟩=some (.bool nn)∧w'.cell? ⟨wr.heap.size,1,none⟩=some (.slice an ln cn)) 11 (by kernel_rfl) ?_;obtain ⟨D31,hD⟩:∃D31,V1.drew=D31:=⟨_,rfl⟩
       have GB:Hid (Below V1.heap.size V1 D31):=by unfold Hid;rw [←hD];exact (Below.refl _ _).drew
       rw [hD];clear hD;have GZ:Hid (V1.heap.size≤D31.heap.size):=GB.out.size;refine zAA (i:=0) (oi:=⟨some 91,.load 39 (.tmp 8),39, "table.go:69",#[],none⟩) (v:=(.agg #[.bool np,.slice ap lp cp])) rfl (by kernel_rfl) (fun _ _ _ h=>h) (Or.inl ⟨by rfl,?_⟩) (KB.out _ GB.out) ?_
       ·intro w hSw;(try dsimp only at hSw);go_simp
       simp only [Act.put,sIb,sC0,sC1];refine zAA (i:=1) (oi:=⟨some 92,.move (.tmp 10),22, "table.go:69",#[],none⟩) (v:=(.slice (some ⟨ga,i_n*2,none⟩) n (mn-i_n))) rfl (by kernel_rfl) (fun _ _ _ h=>h) (Or.inl ⟨by rfl,?_⟩) (KB.out _ GB.out) ?_
       ·intro w hSw;(try dsimp only at hSw);go_simp
       simp only [Act.put,sIb,sC0,sC1];refine zAA (i:=2) (oi:=⟨some 93,.move (.tmp 12),3, "table.go:69",#[],none⟩) (v:=(.int .i64 (j:Int))) rfl (by kernel_rfl) (fun _ _ _ h=>h) (Or.inl ⟨by rfl,?_⟩) (KB.out _ GB.out) ?_
       ·intro w hSw;(try dsimp only at hSw);go_simp
       simp only [Act.put,sIb,sC0,sC1];refine zAA (i:=3) (oi:=⟨some 94,.indexAddr 22 (.tmp 92) (.tmp 93),0, "table.go:69",#[⟨1,.data⟩,⟨2,.data⟩],none⟩) (v:=(.pointer (some ⟨ga,i_n*2+j*2,none⟩))) rfl (by kernel_rfl) (fun _ _ _ h=>h) (Or.inl ⟨by rfl,?_⟩) (KB.out _ GB.out) ?_
       ·intro w hSw;(try dsimp only at hSw);go_simp
       simp only [Act.put,sIb,sC0,sC1];refine zAA (i:=4) (oi:=⟨some 95,.load 39 (.tmp 94),39, "table.go:69",#[⟨3,.data⟩],none⟩) (v:=(.agg #[.bool nx,.slice ax lx cx])) rfl (by kernel_rfl) (fun _ _ _ h=>h) (Or.inl ⟨by rfl,?_⟩) (KB.out _ GB.out) ?_
       ·intro w hSw;(try dsimp only at hSw);go_simp
       simp only [Act.put,sIb,sC0,sC1];refine zAA (i:=6) (oi:=⟨some 97,.load 39 (.tmp 11),39, "table.go:69",#[],none⟩) (v:=(.agg #[.bool nt,.slice at0 lt ct])) rfl (by kernel_rfl) (fun _ _ _ h=>h) (Or.inl ⟨by rfl,?_⟩) (KB.out _ GB.out) ?_
       ·intro w hSw;(try dsimp only at hSw);go_simp
       simp only [Act.put,sIb,sC0,sC1];refine zAA (i:=7) (oi:=⟨some 98,.load 39 (.tmp 13),39, "table.go:69",#[],none⟩) (v:=(.agg #[.bool nn,.slice an ln cn])) rfl (by kernel_rfl) (fun _ _ _ h=>h) (Or.inl ⟨by rfl,?_⟩) (KB.out _ GB.out) ?_
       ·intro w hSw;(try dsimp only at hSw);go_simp
       simp only [Act.put,sIb,sC0,sC1];refine zsA (i:=5) (j:=10) (oi:=⟨some 96,.call { callee:=.value (.func 59),args:=#[.tmp 91,.tmp 95],argTypes:=#[39,39] },39, "table.go:69",#[⟨0,.data⟩,⟨4,.data⟩],none⟩) (oj:=⟨some 14,.alloc 39,0, "table.go:69",#[],none⟩) (by kernel_rfl) rfl rfl (fun K hK=>?_) (fun K hK=>?_)
       ·skip
        replace GZ:Hid (V1.heap.size≤D31.heap.size):=GB.out.size;go_simp;go_at_call 59;refine (zJD (ZP.out.now GB.out).zi (ZX.out.now GB.out).zi (by have:=HK.out;omega)).mono ?_;rintro e w32 ⟨r1,rfl,m1,b⟩;have lz32:=(show Below _ _ _ from b).size;replace GB:=hid (zBA GB.out b);have M1:=hid (m1.mono (Nat.zero_le _));clear m1;clear b;refine hK.out _ _ (fun _=>KB.out _ GB.out) ?_;clear hK;refine zsA (i:=8) (j:=10) (oi:=⟨some 99,.call { callee:=.value (.func 59),args:=#[.tmp 97,.tmp 98],argTypes:=#[39,39] },39, "table.go:69",#[⟨6,.data⟩,⟨7,.data⟩,⟨5,.chain⟩],none⟩) (oj:=⟨some 14,.alloc 39,0, "table.go:69",#[],none⟩) (by kernel_rfl) rfl rfl (fun K hK=>?_) (fun K hK=>?_)
        ·skip
         replace GZ:Hid (V1.heap.size≤w32.heap.size):=GB.out.size;go_simp;go_at_call 59;refine (zJD (ZT3.out.now GB.out).zi (ZN.out.now GB.out).zi (by have:=HK.out;omega)).mono ?_;rintro e w33 ⟨r2,rfl,m1,b⟩;have lz33:=(show Below _ _ _ from b).size;replace GB:=hid (zBA GB.out b);have M2:=hid (m1.mono (Nat.zero_le _));clear m1;replace M1:=hid (M1.out.now b);clear b;refine hK.out _ _ (fun _=>KB.out _ GB.out) ?_;clear hK;refine zsA (i:=9) (j:=10) (oi:=⟨some 100,.call { callee:=.value (.func 64),args:=#[.tmp 96,.tmp 99],argTypes:=#[39,39] },39, "table.go:69",#[⟨5,.data⟩,⟨8,.data⟩,⟨8,.chain⟩],none⟩) (oj:=⟨some 14,.alloc 39,0, "table.go:69",#[],none⟩) (by kernel_rfl) rfl rfl (fun K hK=>?_) (fun K hK=>?_)
         ·skip
          replace GZ:Hid (V1.heap.size≤w33.heap.size):=GB.out.size;go_simp;go_at_call 64;refine (ztE M1.out.zi M2.out.zi (by have:=HK.out;omega) (by have:=HK.out;omega)).mono ?_;rintro e w34 ⟨r3,rfl,m1,b⟩;have lz34:=(show Below _ _ _ from b).size;replace GB:=hid (zBA GB.out b);have M3:=hid (m1.mono (Nat.zero_le _));clear m1;obtain ⟨nr,xr,ar,cr,rfl⟩:=M3.out.parts;clear M1 M2;clear b;refine hK.out _ _ (fun _=>KB.out _ GB.out) ?_;clear hK;refine zCA (i:=10) (o:=⟨some 14,.alloc 39,0, "table.go:69",#[],none⟩) (by kernel_rfl) rfl (fun K hK=>?_);replace GZ:Hid (V1.heap.size≤w34.heap.size):=GB.out.size;go_simp;obtain ⟨V35,hW⟩:∃V35,w34.alloc zbox=V35:=⟨_,rfl⟩
          obtain ⟨b,sz35⟩:=alo1 w34 zbox;rw [hW] at b sz35;replace GB:=hid (zBA GB.out b);have DX:Hid (Duo V35 w34.heap.size (.bool false) (.slice none 0 0)):=by unfold Hid;rw [←hW];exact Duo.new w34 _ _
          have SX:=hid (show V1.heap.size≤w34.heap.size from GZ.out);clear sz35;replace M3:=hid (M3.out.now b);rw [hW];clear hW b;refine hK.out _ _ (fun _=>KB.out _ GB.out) ?_;clear hK
          try simp only [Act.put]
          refine zCA (i:=11) (o:=⟨none,.store 39 (.tmp 14) (.tmp 100),0, "table.go:69",#[⟨10,.data⟩,⟨9,.data⟩,⟨9,.chain⟩,⟨0,.phase⟩,⟨1,.phase⟩,⟨2,.phase⟩,⟨3,.phase⟩,⟨4,.phase⟩,⟨5,.phase⟩,⟨6,.phase⟩,⟨7,.phase⟩,⟨8,.phase⟩,⟨9,.phase⟩,⟨10,.phase⟩],none⟩) (by kernel_rfl) rfl (fun K hK=>?_);have e0:=DX.out.c0;have e1:=DX.out.c1;have e2:=DX.out.fz 0;have e3:=DX.out.fz 1;go_simp;clear e0 e1 e2 e3;obtain ⟨V36,hW⟩:∃V36,((V35.setCell ⟨w34.heap.size,0,none⟩ (.bool nr)).setCell ⟨w34.heap.size,1,none⟩ (.slice ar xr.length cr))=V36:=⟨_,rfl⟩
          have MB:Hid (MetX V1 V36 (.pointer (some ⟨w34.heap.size,0,none⟩)) (F p q*F i j-F i q*F p j) (k+k+1)):=by
           unfold Hid;rw [←hW];exact zAF DX.out (M3.out.more (by omega)) GB.out SX.out
          rw [hW];clear hW;refine hK.out _ _ (fun h=>absurd h (by decide)) ?_;clear hK
          try simp only [Act.put]
          refine zFA (by kernel_rfl) ?_ _;clear DX SX M3 GB GZ;go_wp2_with fail;go_meet;exact MB.out
         ·skip
          replace GZ:Hid (V1.heap.size≤w33.heap.size):=GB.out.size;go_simp;obtain ⟨V37,hW⟩:∃V37,w33.alloc zbox=V37:=⟨_,rfl⟩
          obtain ⟨b,sz37⟩:=alo1 w33 zbox;rw [hW] at b sz37;replace GB:=hid (zBA GB.out b);have DX:Hid (Duo V37 w33.heap.size (.bool false) (.slice none 0 0)):=by unfold Hid;rw [←hW];exact Duo.new w33 _ _
          have SX:=hid (show V1.heap.size≤w33.heap.size from GZ.out);clear sz37;replace M1:=hid (M1.out.now b);replace M2:=hid (M2.out.now b);rw [hW];clear hW b;refine hK.out _ _ (fun _=>KB.out _ GB.out) ?_;clear hK
          try simp only [Act.put]
          refine zCA (i:=9) (o:=⟨some 100,.call { callee:=.value (.func 64),args:=#[.tmp 96,.tmp 99],argTypes:=#[39,39] },39, "table.go:69",#[⟨5,.data⟩,⟨8,.data⟩,⟨8,.chain⟩],none⟩) (by kernel_rfl) rfl (fun K hK=>?_);replace GZ:Hid (V1.heap.size≤V37.heap.size):=GB.out.size;go_simp;go_at_call 64;refine (ztE M1.out.zi M2.out.zi (by have:=HK.out;omega) (by have:=HK.out;omega)).mono ?_;rintro e w38 ⟨r3,rfl,m1,b⟩;have lz38:=(show Below _ _ _ from b).size;replace GB:=hid (zBA GB.out b);have M3:=hid (m1.mono (Nat.zero_le _));clear m1;replace DX:=hid (DX.out.step b);obtain ⟨nr,xr,ar,cr,rfl⟩:=M3.out.parts;clear M1 M2;clear b;refine hK.out _ _ (fun _=>KB.out _ GB.out) ?_;clear hK;refine zCA (i:=11) (o:=⟨none,.store 39 (.tmp 14) (.tmp 100),0, "table.go:69",#[⟨10,.data⟩,⟨9,.data⟩,⟨9,.chain⟩,⟨0,.phase⟩,⟨1,.phase⟩,⟨2,.phase⟩,⟨3,.phase⟩,⟨4,.phase⟩,⟨5,.phase⟩,⟨6,.phase⟩,⟨7,.phase⟩,⟨8,.phase⟩,⟨9,.phase⟩,⟨10,.phase⟩],none⟩) (by kernel_rfl) rfl (fun K hK=>?_);have e0:=DX.out.c0;have e1:=DX.out.c1;have e2:=DX.out.fz 0;have e3:=DX.out.fz 1;go_simp;clear e0 e1 e2 e3;obtain ⟨V39,hW⟩:∃V39,((w38.setCell ⟨w33.heap.size,0,none⟩ (.bool nr)).setCell ⟨w33.heap.size,1,none⟩ (.slice ar xr.length cr))=V39:=⟨_,rfl⟩
          have MB:Hid (MetX V1 V39 (.pointer (some ⟨w33.heap.size,0,none⟩)) (F p q*F i j-F i q*F p j) (k+k+1)):=by
           unfold Hid;rw [←hW];exact zAF DX.out (M3.out.more (by omega)) GB.out SX.out
          rw [hW];clear hW;refine hK.out _ _ (fun h=>absurd h (by decide)) ?_;clear hK
          try simp only [Act.put]
          refine zFA (by kernel_rfl) ?_ _;clear DX SX M3 GB GZ;go_wp2_with fail;go_meet;exact MB.out
        ·skip
         replace GZ:Hid (V1.heap.size≤w32.heap.size):=GB.out.size;go_simp;obtain ⟨V40,hW⟩:∃V40,w32.alloc zbox=V40:=⟨_,rfl⟩
         obtain ⟨b,sz40⟩:=alo1 w32 zbox;rw [hW] at b sz40;replace GB:=hid (zBA GB.out b);have DX:Hid (Duo V40 w32.heap.size (.bool false) (.slice none 0 0)):=by unfold Hid;rw [←hW];exact Duo.new w32 _ _
         have SX:=hid (show V1.heap.size≤w32.heap.size from GZ.out);clear sz40;replace M1:=hid (M1.out.now b);rw [hW];clear hW b;refine hK.out _ _ (fun _=>KB.out _ GB.out) ?_;clear hK
         try simp only [Act.put]
         refine zCA (i:=8) (o:=⟨some 99,.call { callee:=.value (.func 59),args:=#[.tmp 97,.tmp 98],argTypes:=#[39,39] },39, "table.go:69",#[⟨6,.data⟩,⟨7,.data⟩,⟨5,.chain⟩],none⟩) (by kernel_rfl) rfl (fun K hK=>?_);replace GZ:Hid (V1.heap.size≤V40.heap.size):=GB.out.size;go_simp;go_at_call 59;refine (zJD (ZT3.out.now GB.out).zi (ZN.out.now GB.out).zi (by have:=HK.out;omega)).mono ?_;rintro e w41 ⟨r2,rfl,m1,b⟩;have lz41:=(show Below _ _ _ from b).size;replace GB:=hid (zBA GB.out b);have M2:=hid (m1.mono (Nat.zero_le _));clear m1;replace DX:=hid (DX.out.step b);replace M1:=hid (M1.out.now b);clear b;refine hK.out _ _ (fun _=>KB.out _ GB.out) ?_;clear hK;refine zCA (i:=9) (o:=⟨some 100,.call { callee:=.value (.func 64),args:=#[.tmp 96,.tmp 99],argTypes:=#[39,39] },39, "table.go:69",#[⟨5,.data⟩,⟨8,.data⟩,⟨8,.chain⟩],none⟩) (by kernel_rfl) rfl (fun K hK=>?_);replace GZ:Hid (V1.heap.size≤w41.heap.size):=GB.out.size;go_simp;go_at_call 64;refine (ztE M1.out.zi M2.out.zi (by have:=HK.out;omega) (by have:=HK.out;omega)).mono ?_;rintro e w42 ⟨r3,rfl,m1,b⟩;have lz42:=(show Below _ _ _ from b).size;replace GB:=hid (zBA GB.out b);have M3:=hid (m1.mono (Nat.zero_le _));clear m1;replace DX:=hid (DX.out.step b);obtain ⟨nr,xr,ar,cr,rfl⟩:=M3.out.parts;clear M1 M2;clear b;refine hK.out _ _ (fun _=>KB.out _ GB.out) ?_;clear hK;refine zCA (i:=11) (o:=⟨none,.store 39 (.tmp 14) (.tmp 100),0, "table.go:69",#[⟨10,.data⟩,⟨9,.data⟩,⟨9,.chain⟩,⟨0,.phase⟩,⟨1,.phase⟩,⟨2,.phase⟩,⟨3,.phase⟩,⟨4,.phase⟩,⟨5,.phase⟩,⟨6,.phase⟩,⟨7,.phase⟩,⟨8,.phase⟩,⟨9,.phase⟩,⟨10,.phase⟩],none⟩) (by kernel_rfl) rfl (fun K hK=>?_);have e0:=DX.out.c0;have e1:=DX.out.c1;have e2:=DX.out.fz 0;have e3:=DX.out.fz 1;go_simp;clear e0 e1 e2 e3;obtain ⟨V43,hW⟩:∃V43,((w42.setCell ⟨w32.heap.size,0,none⟩ (.bool nr)).setCell ⟨w32.heap.size,1,none⟩ (.slice ar xr.length cr))=V43:=⟨_,rfl⟩
         have MB:Hid (MetX V1 V43 (.pointer (some ⟨w32.heap.size,0,none⟩)) (F p q*F i j-F i q*F p j) (k+k+1)):=by
          unfold Hid;rw [←hW];exact zAF DX.out (M3.out.more (by omega)) GB.out SX.out
         rw [hW];clear hW;refine hK.out _ _ (fun h=>absurd h (by decide)) ?_;clear hK
         try simp only [Act.put]
         refine zFA (by kernel_rfl) ?_ _;clear DX SX M3 GB GZ;go_wp2_with fail;go_meet;exact MB.out
       ·skip
        replace GZ:Hid (V1.heap.size≤D31.heap.size):=GB.out.size;go_simp;obtain ⟨V44,hW⟩:∃V44,D31.alloc zbox=V44:=⟨_,rfl⟩
        obtain ⟨b,sz44⟩:=alo1 D31 zbox;rw [hW] at b sz44;replace GB:=hid (zBA GB.out b);have DX:Hid (Duo V44 D31.heap.size (.bool false) (.slice none 0 0)):=by unfold Hid;rw [←hW];exact Duo.new D31 _ _
        have SX:=hid (show V1.heap.size≤D31.heap.size from GZ.out);clear sz44;rw [hW];clear hW b;refine hK.out _ _ (fun _=>KB.out _ GB.out) ?_;clear hK
        try simp only [Act.put]
        refine zCA (i:=5) (o:=⟨some 96,.call { callee:=.value (.func 59),args:=#[.tmp 91,.tmp 95],argTypes:=#[39,39] },39, "table.go:69",#[⟨0,.data⟩,⟨4,.data⟩],none⟩) (by kernel_rfl) rfl (fun K hK=>?_);replace GZ:Hid (V1.heap.size≤V44.heap.size):=GB.out.size;go_simp;go_at_call 59;refine (zJD (ZP.out.now GB.out).zi (ZX.out.now GB.out).zi (by have:=HK.out;omega)).mono ?_;rintro e w45 ⟨r1,rfl,m1,b⟩;have lz45:=(show Below _ _ _ from b).size;replace GB:=hid (zBA GB.out b);have M1:=hid (m1.mono (Nat.zero_le _));clear m1;replace DX:=hid (DX.out.step b);clear b;refine hK.out _ _ (fun _=>KB.out _ GB.out) ?_;clear hK;refine zCA (i:=8) (o:=⟨some 99,.call { callee:=.value (.func 59),args:=#[.tmp 97,.tmp 98],argTypes:=#[39,39] },39, "table.go:69",#[⟨6,.data⟩,⟨7,.data⟩,⟨5,.chain⟩],none⟩) (by kernel_rfl) rfl (fun K hK=>?_);replace GZ:Hid (V1.heap.size≤w45.heap.size):=GB.out.size;go_simp;go_at_call 59;refine (zJD (ZT3.out.now GB.out).zi (ZN.out.now GB.out).zi (by have:=HK.out;omega)).mono ?_;rintro e w46 ⟨r2,rfl,m1,b⟩;have lz46:=(show Below _ _ _ from b).size;replace GB:=hid (zBA GB.out b);have M2:=hid (m1.mono (Nat.zero_le _));clear m1;replace DX:=hid (DX.out.step b);replace M1:=hid (M1.out.now b);clear b;refine hK.out _ _ (fun _=>KB.out _ GB.out) ?_;clear hK;refine zCA (i:=9) (o:=⟨some 100,.call { callee:=.value (.func 64),args:=#[.tmp 96,.tmp 99],argTypes:=#[39,39] },39, "table.go:69",#[⟨5,.data⟩,⟨8,.data⟩,⟨8,.chain⟩],none⟩) (by kernel_rfl) rfl (fun K hK=>?_);replace GZ:Hid (V1.heap.size≤w46.heap.size):=GB.out.size;go_simp;go_at_call 64;refine (ztE M1.out.zi M2.out.zi (by have:=HK.out;omega) (by have:=HK.out;omega)).mono ?_;rintro e w47 ⟨r3,rfl,m1,b⟩;have lz47:=(show Below _ _ _ from b).size;replace GB:=hid (zBA GB.out b);have M3:=hid (m1.mono (Nat.zero_le _));clear m1;replace DX:=hid (DX.out.step b);obtain ⟨nr,xr,ar,cr,rfl⟩:=M3.out.parts;clear M1 M2;clear b;refine hK.out _ _ (fun _=>KB.out _ GB.out) ?_;clear hK;refine zCA (i:=11) (o:=⟨none,.store 39 (.tmp 14) (.tmp 100),0, "table.go:69",#[⟨10,.data⟩,⟨9,.data⟩,⟨9,.chain⟩,⟨0,.phase⟩,⟨1,.phase⟩,⟨2,.phase⟩,⟨3,.phase⟩,⟨4,.phase⟩,⟨5,.phase⟩,⟨6,.phase⟩,⟨7,.phase⟩,⟨8,.phase⟩,⟨9,.phase⟩,⟨10,.phase⟩],none⟩) (by kernel_rfl) rfl (fun K hK=>?_);have e0:=DX.out.c0;have e1:=DX.out.c1;have e2:=DX.out.fz 0;have e3:=DX.out.fz 1;go_simp;clear e0 e1 e2 e3;obtain ⟨V48,hW⟩:∃V48,((w47.setCell ⟨D31.heap.size,0,none⟩ (.bool nr)).setCell ⟨D31.heap.size,1,none⟩ (.slice ar xr.length cr))=V48:=⟨_,rfl⟩
        have MB:Hid (MetX V1 V48 (.pointer (some ⟨D31.heap.size,0,none⟩)) (F p q*F i j-F i q*F p j) (k+k+1)):=by
         unfold Hid;rw [←hW];exact zAF DX.out (M3.out.more (by omega)) GB.out SX.out
        rw [hW];clear hW;refine hK.out _ _ (fun h=>absurd h (by decide)) ?_;clear hK
        try simp only [Act.put]
        refine zFA (by kernel_rfl) ?_ _;clear DX SX M3 GB GZ;go_wp2_with fail;go_meet;exact MB.out
      case rest =>
      rename World=>Wx
      obtain ⟨bx,nr,xr,ar,cr,rfl,b,hbx,dx,zx⟩:=hcut;have HE:=hid (HX.out i j hlt hlt2 hip);have HS:=hid (zoD zx.zi (ZD3.out.now b).zi HD.out (by have:=HK.out;omega) (by have:=HK.out;omega) (by rw [HE.out];exact Int.mul_tmod_right _ _));rw [HE.out,Int.mul_tdiv_cancel_left _ HD.out] at HS;have d0:=dx.c0;have d1:=dx.c1;have e0:=(DD3.out.step b).c0;have e1:=(DD3.out.step b).c1;have BX:=hid b;clear zx b dx;go_wp2_with fail;refine HS.out.mono ?_;rintro e w2 ⟨rq,rfl,mq,bq⟩;obtain ⟨nq,xq,aq,cq,rfl⟩:=mq.parts;have BW:=hid (zBA BX.out bq);have AR2:=hid (AR1.out.step BW.out);have MQ:=hid ((mq.mono (Nat.zero_le _)).fit (HF.out i j hlt hlt2));obtain ⟨_,_,_,_,f0,f1,f2,f3,-⟩:=AR2.out.at hlt hlt2;have HN1:Hid (XiH Wi ga m n F d p q x i k (n-(j+1)) (.int .i64 ((j+1:Nat):Int)) ((w2.setCell ⟨ga,i_n*2+j*2,none⟩ (.bool nq)).setCell ⟨ga,i_n*2+j*2+1,none⟩ (.slice aq xq.length cq))):=by
       have u1:=AR2.out.put hlt hlt2 MQ.out;rw [zwB fun r c _ _=>exI_put,EIN.out,Nat.add_mul] at u1;exact ⟨j+1,rfl,by omega,rfl,u1,((TV1.out.trans (.ofBelow BW.out)).setCell (.inr rfl) _ _).setCell (.inr rfl) _ _⟩
      rw [EIN.out,Nat.add_mul] at f0 f1 f2 f3;clear HS mq bq BW AR2 MQ BX d0 d1 e0 e1 AR1 ZX ZN TV1 ZP ZT3 ZD3 DD3 p0 p1 t0 t1 n0 n1 x0 x1 HE;go_wp2_with fail;go_roundg (n-(j+1))
      case rel=>exact HN1.out
      case measure=>exact HM2.out
     ·have hlt2':¬(j:Int)<(n:Int):=by omega
      obtain rfl:j=n:=by omega
      have HS:=hid (zkI ZT2.out.zi);have t0:=DT2.out.c0;have t1:=DT2.out.c1;have hqn:(q:Int)<(j:Int):=by omega
      go_wp2_with fail;refine HS.out.mono ?_;rintro e w2 ⟨rq,rfl,mq,bq⟩;obtain ⟨nq,xq,aq,cq,rfl⟩:=mq.parts;have AR2:=hid (AZ1.out.step bq);obtain ⟨_,_,_,_,f0,f1,f2,f3,-⟩:=AR2.out.at hlt hq;have HN1:Hid (XoH Wo ga m j F d p q x k (m-(i+1)) (.int .i64 ((i+1:Nat):Int)) ((w2.setCell ⟨ga,i_n*2+q*2,none⟩ (.bool nq)).setCell ⟨ga,i_n*2+q*2+1,none⟩ (.slice aq xq.length cq))):=by
       have u1:=AR2.out.put hlt hq (mq.mono (Nat.zero_le _));rw [zwB fun r c _ hc=>exI_end hip hc,EIN.out,Nat.add_mul] at u1;exact ⟨i+1,rfl,by omega,rfl,u1,(((TWI.out.trans TW2.out).trans (.ofBelow bq)).setCell (.inr rfl) _ _).setCell (.inr rfl) _ _⟩
      rw [EIN.out,Nat.add_mul] at f0 f1 f2 f3;clear HS mq bq AR2 t0 t1 AZ1 TW2 DD2 DP2 DT2 ZD2 ZP2 ZT2 TYI HG;go_wp2_with fail;go_roundg (m-(i+1))
      case rel=>exact HN1.out
      case measure=>exact HMM.out
  ·have hlt':¬(i:Int)<(m:Int):=by omega
   obtain rfl:i=m:=by omega
   have y2:=(KS.out _ TY.out).1.at (i:=2) rfl;have k0:=DD1.out.c0;have k1:=DD1.out.c1;clear HG;go_wp2_with fail;have KB:Hid (∀w',Below wr.heap.size wr w'→w'.cell? ⟨bt,2,none⟩=some (.slice (some ⟨ga,0,none⟩) mn mn)∧w'.cell? ⟨bd,0,none⟩=some (.bool nd)∧w'.cell? ⟨bd,1,none⟩=some (.slice ad ld cd)):=fun w' h=>⟨cnow h y2,cnow h k0,cnow h k1⟩
   refine zDA (fun w'=>w'.cell? ⟨bt,2,none⟩=some (.slice (some ⟨ga,0,none⟩) mn mn)∧w'.cell? ⟨bd,0,none⟩=some (.bool nd)∧w'.cell? ⟨bd,1,none⟩=some (.slice ad ld cd)) 12 (by kernel_rfl) ?_;obtain ⟨D61,hD⟩:∃D61,wr.drew=D61:=⟨_,rfl⟩
   have GB:Hid (Below wr.heap.size wr D61):=by unfold Hid;rw [←hD];exact (Below.refl _ _).drew
   rw [hD];clear hD;refine zAA (i:=0) (oi:=⟨some 117,.move (.tmp 0),84, "table.go:75",#[],none⟩) (v:=(.pointer (some ⟨bt,0,none⟩))) rfl (by kernel_rfl) (fun _ _ _ h=>h) (Or.inl ⟨by rfl,?_⟩) (KB.out _ GB.out) ?_
   ·intro w hSw;(try dsimp only at hSw);go_simp
   simp only [Act.put,sIb,sC0,sC1];refine zAA (i:=1) (oi:=⟨some 118,.nilCheck (.tmp 117),0, "table.go:75",#[⟨0,.data⟩],none⟩) (v:=(.pointer (some ⟨bt,0,none⟩))) rfl (by kernel_rfl) (fun _ _ _ h=>h) (Or.inl ⟨by rfl,?_⟩) (KB.out _ GB.out) ?_
   ·intro w hSw;(try dsimp only at hSw);go_simp
   simp only [Act.put,sIb,sC0,sC1];refine zAA (i:=2) (oi:=⟨some 119,.fieldAddr 103 (.tmp 118) 0,0, "table.go:75",#[⟨1,.data⟩],none⟩) (v:=(.pointer (some ⟨bt,0,none⟩))) rfl (by kernel_rfl) (fun _ _ _ h=>h) (Or.inl ⟨by rfl,?_⟩) (KB.out _ GB.out) ?_
   ·intro w hSw;(try dsimp only at hSw);go_simp
   simp only [Act.put,sIb,sC0,sC1];refine zAA (i:=3) (oi:=⟨some 120,.fieldAddr 24 (.tmp 119) 2,0, "table.go:75",#[⟨2,.data⟩],none⟩) (v:=(.pointer (some ⟨bt,2,none⟩))) rfl (by kernel_rfl) (fun _ _ _ h=>h) (Or.inl ⟨by rfl,?_⟩) (KB.out _ GB.out) ?_
   ·intro w hSw;(try dsimp only at hSw);go_simp
   simp only [Act.put,sIb,sC0,sC1];refine zAA (i:=4) (oi:=⟨some 121,.load 22 (.tmp 120),22, "table.go:75",#[⟨3,.data⟩],none⟩) (v:=(.slice (some ⟨ga,0,none⟩) mn mn)) rfl (by kernel_rfl) (fun _ _ _ h=>h) (Or.inl ⟨by rfl,?_⟩) (KB.out _ GB.out) ?_
   ·intro w hSw;(try dsimp only at hSw);go_simp
   simp only [Act.put,sIb,sC0,sC1];refine zAA (i:=5) (oi:=⟨some 122,.move (.tmp 1),3, "table.go:75",#[],none⟩) (v:=(.int .i64 (p:Int))) rfl (by kernel_rfl) (fun _ _ _ h=>h) (Or.inl ⟨by rfl,?_⟩) (KB.out _ GB.out) ?_
   ·intro w hSw;(try dsimp only at hSw);go_simp
   simp only [Act.put,sIb,sC0,sC1];refine zAA (i:=6) (oi:=⟨some 123,.move (.tmp 6),3, "table.go:75",#[],none⟩) (v:=(.int .i64 (n:Int))) rfl (by kernel_rfl) (fun _ _ _ h=>h) (Or.inl ⟨by rfl,?_⟩) (KB.out _ GB.out) ?_
   ·intro w hSw;(try dsimp only at hSw);go_simp
   simp only [Act.put,sIb,sC0,sC1];refine zAA (i:=7) (oi:=⟨some 124,.binOp .mul 3 (.tmp 122) (.tmp 123) 3,3, "table.go:75",#[⟨5,.data⟩,⟨6,.data⟩],none⟩) (v:=(.int .i64 (pn:Int))) rfl (by kernel_rfl) (fun _ _ _ h=>h) (Or.inl ⟨by rfl,?_⟩) (KB.out _ GB.out) ?_
   ·intro w hSw;(try dsimp only at hSw);go_simp
   simp only [Act.put,sIb,sC0,sC1];refine zAA (i:=8) (oi:=⟨some 125,.move (.tmp 2),3, "table.go:75",#[],none⟩) (v:=(.int .i64 (q:Int))) rfl (by kernel_rfl) (fun _ _ _ h=>h) (Or.inl ⟨by rfl,?_⟩) (KB.out _ GB.out) ?_
   ·intro w hSw;(try dsimp only at hSw);go_simp
   simp only [Act.put,sIb,sC0,sC1];refine zAA (i:=9) (oi:=⟨some 126,.binOp .add 3 (.tmp 124) (.tmp 125) 3,3, "table.go:75",#[⟨7,.data⟩,⟨8,.data⟩],none⟩) (v:=(.int .i64 (pq:Int))) rfl (by kernel_rfl) (fun _ _ _ h=>h) (Or.inl ⟨by rfl,?_⟩) (KB.out _ GB.out) ?_
   ·intro w hSw;(try dsimp only at hSw);go_simp
   simp only [Act.put,sIb,sC0,sC1];refine zAA (i:=10) (oi:=⟨some 127,.load 39 (.tmp 7),39, "table.go:75",#[],none⟩) (v:=(.agg #[.bool nd,.slice ad ld cd])) rfl (by kernel_rfl) (fun _ _ _ h=>h) (Or.inl ⟨by rfl,?_⟩) (KB.out _ GB.out) ?_
   ·intro w hSw;(try dsimp only at hSw);go_simp
   simp only [Act.put,sIb,sC0,sC1];refine zAA (i:=11) (oi:=⟨some 128,.indexAddr 22 (.tmp 121) (.tmp 126),0, "table.go:75",#[⟨4,.data⟩,⟨9,.data⟩,⟨0,.phase⟩,⟨1,.phase⟩,⟨2,.phase⟩,⟨3,.phase⟩,⟨4,.phase⟩,⟨5,.phase⟩,⟨6,.phase⟩,⟨7,.phase⟩,⟨8,.phase⟩,⟨9,.phase⟩,⟨10,.phase⟩],none⟩) (v:=(.pointer (some ⟨ga,pq*2,none⟩))) rfl (by kernel_rfl) (fun _ _ _ h=>h) (Or.inl ⟨by rfl,?_⟩) (KB.out _ GB.out) ?_
   ·intro w hSw;(try dsimp only at hSw);go_simp
   simp only [Act.put,sIb,sC0,sC1];refine zCA (i:=12) (o:=⟨none,.store 39 (.tmp 128) (.tmp 127),0, "table.go:75",#[⟨11,.data⟩,⟨10,.data⟩,⟨0,.phase⟩,⟨1,.phase⟩,⟨2,.phase⟩,⟨3,.phase⟩,⟨4,.phase⟩,⟨5,.phase⟩,⟨6,.phase⟩,⟨7,.phase⟩,⟨8,.phase⟩,⟨9,.phase⟩,⟨10,.phase⟩],none⟩) (by kernel_rfl) rfl (fun K hK=>?_);have AZ2:=hid (AZ0.out.step GB.out);obtain ⟨_,_,_,_,f0,f1,f2,f3,-⟩:=AZ2.out.at hp hq;rw [EPN.out,EPQ.out] at f0 f1 f2 f3;go_simp;clear f0 f1 f2 f3;obtain ⟨V62,hW⟩:∃V62,((D61.setCell ⟨ga,pq*2,none⟩ (.bool nd)).setCell ⟨ga,pq*2+1,none⟩ (.slice ad ld cd))=V62:=⟨_,rfl⟩
   have AZ3:Hid (AZ V62 ga (zF i n (exch F d p q x)) k):=by
    unfold Hid;have u1:=AZ2.out.put hp hq (ZD1.out.now GB.out);rw [zwB fun r c hr _=>exO_end hr,EPN.out,EPQ.out,hW] at u1;exact u1
   have TW3:Hid (zLA (· = ga) Wo V62):=by
    unfold Hid;rw [←hW];exact ((TW.out.trans (.ofBelow GB.out)).setCell (.inr rfl) _ _).setCell (.inr rfl) _ _
   rw [hW];clear hW;refine hK.out _ _ (fun h=>absurd h (by decide)) ?_;clear hK
   try simp only [Act.put]
   refine zFA (by kernel_rfl) ?_ _;clear GB KB AZ2 AZ0 TW TY k0 k1 y2 DD1 DP1 ZD1 ZP1;have TY3:Hid (Ty 39 w V62):=TO.out.trans (AO.out.touch TW3.out);have DP3:Hid (Duo V62 bp (.bool np) (.slice ap lp cp)):=(TW3.out.block bp DP.out.blk hgbp).trans DP.out;have ZP3:=hid (ZP.out.ty (AO.out.touch TW3.out) (by decide));have CB3:=hid (KS.out _ TY3.out).1;have CG3:=hid (KS.out _ TY3.out).2.1;have CO3:=hid (KS.out _ TY3.out).2.2;have g0:=DP3.out.c0;have g1:=DP3.out.c1;have g2:=CB3.out.at (i:=5) rfl;have g3:=CB3.out.at (i:=6) rfl;have g4:=CB3.out.fz 5;have g5:=CB3.out.fz 6;obtain ⟨V9,hV9⟩:∃V9,(V62.setCell ⟨bt,5,none⟩ (.bool np)).setCell ⟨bt,6,none⟩ (.slice ap lp cp)=V9:=⟨_,rfl⟩
   have TT:Hid (Ty 103 V62 V9):=by unfold Hid;rw [←hV9];exact (Ty.set CB3.out).trans (Ty.set (CB3.out.set 5 (.bool np)))
   have CB9:Hid (Cel V9 bt 103 (tbL i n rk (.slice (some ⟨ga,0,none⟩) mn mn) (.slice (some ⟨gb,0,none⟩) i cb) (.slice (some ⟨go,0,none⟩) n n) (.bool np) (.slice ap lp cp))):=by unfold Hid;rw [←hV9];exact (CB3.out.set 5 (.bool np)).set 6 (.slice ap lp cp)
   have CG9:=hid (CG3.out.ty13 TT.out (by decide));have CO9:=hid (CO3.out.ty13 TT.out (by decide));have AZ9:=hid (AZ3.out.ty TT.out (by decide) (by decide));have ZP9:=hid (ZP3.out.ty TT.out (by decide));have TH9:Hid (zLA (fun b=>b=ga∨b=gb∨b=go∨b=bt) w V9):=by
    unfold Hid;rw [←hV9];have t1:zLA (fun b=>b=ga∨b=gb∨b=go∨b=bt) w V62:=zLA.trans (.ofBelow BO.out) ⟨TW3.out.os,TW3.out.tape,TW3.out.output,TW3.out.size,fun c h1 h2=>TW3.out.block c h1 fun e=>h2 (.inl e)⟩;exact (t1.setCell (.inr (.inr (.inr (.inr rfl)))) _ _).setCell (.inr (.inr (.inr (.inr rfl)))) _ _
   have EV:=hid hV9;clear hV9 AZ3 TW3 TY3 DP3 ZP3 CB3 CG3 CO3 TT;go_upto_region 17 with fail
   rw [EV.out];clear EV g0 g1 g2 g3 g4 g5;have z3:=CB9.out.at (i:=3) rfl;have z4:=CB9.out.at (i:=4) rfl;have z5:V9.cell? ⟨gb,p,none⟩=some (.int .i64 (bs.getD p 0:Nat)):=CG9.out.at (zoG hp);have z6:V9.cell? ⟨go,q,none⟩=some (.int .i64 (os.getD q 0:Nat)):=CO9.out.nf hq;obtain ⟨ob,hob⟩:∃ob,bs.getD p 0=ob:=⟨_,rfl⟩
   obtain ⟨oo,hoo⟩:∃oo,os.getD q 0=oo:=⟨_,rfl⟩
   rw [hob] at z5;rw [hoo] at z6;have EOB:=hid hob;have EOO:=hid hoo;have hpi:(p:Int)<(i:Int):=by omega
   have hqi:(q:Int)<(n:Int):=by omega
   clear hob hoo;have KB:Hid (∀w',Below V9.heap.size V9 w'→w'.cell? ⟨bt,3,none⟩=some (.slice (some ⟨gb,0,none⟩) i cb)∧w'.cell? ⟨bt,4,none⟩=some (.slice (some ⟨go,0,none⟩) n n)∧w'.cell? ⟨gb,p,none⟩=some (.int .i64 (ob:Int))∧w'.cell? ⟨go,q,none⟩=some (.int .i64 (oo:Int))):=fun w' h=>⟨cnow h z3,cnow h z4,cnow h z5,cnow h z6⟩
   refine zTD (fun w'=>w'.cell? ⟨bt,3,none⟩=some (.slice (some ⟨gb,0,none⟩) i cb)∧w'.cell? ⟨bt,4,none⟩=some (.slice (some ⟨go,0,none⟩) n n)∧w'.cell? ⟨gb,p,none⟩=some (.int .i64 (ob:Int))∧w'.cell? ⟨go,q,none⟩=some (.int .i64 (oo:Int))) [25,27] (by kernel_rfl) ?_;obtain ⟨D81,hD⟩:∃D81,V9.drew=D81:=⟨_,rfl⟩
   have GB:Hid (Below V9.heap.size V9 D81):=by unfold Hid;rw [←hD];exact (Below.refl _ _).drew
   rw [hD];clear hD;refine zIA (i:=0) (oi:=⟨some 133,.move (.tmp 0),84, "table.go:77",#[],none⟩) (v:=(.pointer (some ⟨bt,0,none⟩))) rfl (by kernel_rfl) (fun _ _ _ h=>h) (Or.inl ⟨by rfl,?_⟩)  ?_
   ·intro w hSw;(try dsimp only at hSw);go_simp
   simp only [Act.put,sIb,sC0,sC1];refine zIA (i:=1) (oi:=⟨some 134,.nilCheck (.tmp 133),0, "table.go:77",#[⟨0,.data⟩],none⟩) (v:=(.pointer (some ⟨bt,0,none⟩))) rfl (by kernel_rfl) (fun _ _ _ h=>h) (Or.inl ⟨by rfl,?_⟩)  ?_
   ·intro w hSw;(try dsimp only at hSw);go_simp
   simp only [Act.put,sIb,sC0,sC1];refine zIA (i:=2) (oi:=⟨some 135,.fieldAddr 103 (.tmp 134) 1,0, "table.go:77",#[⟨1,.data⟩],none⟩) (v:=(.pointer (some ⟨bt,3,none⟩))) rfl (by kernel_rfl) (fun _ _ _ h=>h) (Or.inl ⟨by rfl,?_⟩)  ?_
   ·intro w hSw;(try dsimp only at hSw);go_simp
   simp only [Act.put,sIb,sC0,sC1];refine zhA (i:=3) (oi:=⟨some 136,.load 47 (.tmp 135),47, "table.go:77",#[⟨2,.data⟩],none⟩) (v:=(.slice (some ⟨gb,0,none⟩) i cb)) rfl (by kernel_rfl) (fun _ _ _ h=>h) (Or.inl ⟨by rfl,?_⟩) (KB.out _ GB.out) ?_
   ·intro w hSw;(try dsimp only at hSw);go_simp
   simp only [Act.put,sIb,sC0,sC1];refine zIA (i:=4) (oi:=⟨some 137,.move (.tmp 1),3, "table.go:77",#[],none⟩) (v:=(.int .i64 (p:Int))) rfl (by kernel_rfl) (fun _ _ _ h=>h) (Or.inl ⟨by rfl,?_⟩)  ?_
   ·intro w hSw;(try dsimp only at hSw);go_simp
   simp only [Act.put,sIb,sC0,sC1];refine zIA (i:=5) (oi:=⟨some 138,.move (.tmp 0),84, "table.go:77",#[],none⟩) (v:=(.pointer (some ⟨bt,0,none⟩))) rfl (by kernel_rfl) (fun _ _ _ h=>h) (Or.inl ⟨by rfl,?_⟩)  ?_
   ·intro w hSw;(try dsimp only at hSw);go_simp
   simp only [Act.put,sIb,sC0,sC1];refine zIA (i:=6) (oi:=⟨some 139,.nilCheck (.tmp 138),0, "table.go:77",#[⟨5,.data⟩],none⟩) (v:=(.pointer (some ⟨bt,0,none⟩))) rfl (by kernel_rfl) (fun _ _ _ h=>h) (Or.inl ⟨by rfl,?_⟩)  ?_
   ·intro w hSw;(try dsimp only at hSw);go_simp
   simp only [Act.put,sIb,sC0,sC1];refine zIA (i:=7) (oi:=⟨some 140,.fieldAddr 103 (.tmp 139) 2,0, "table.go:77",#[⟨6,.data⟩],none⟩) (v:=(.pointer (some ⟨bt,4,none⟩))) rfl (by kernel_rfl) (fun _ _ _ h=>h) (Or.inl ⟨by rfl,?_⟩)  ?_
   ·intro w hSw;(try dsimp only at hSw);go_simp
   simp only [Act.put,sIb,sC0,sC1];refine zhA (i:=8) (oi:=⟨some 141,.load 47 (.tmp 140),47, "table.go:77",#[⟨7,.data⟩],none⟩) (v:=(.slice (some ⟨go,0,none⟩) n n)) rfl (by kernel_rfl) (fun _ _ _ h=>h) (Or.inl ⟨by rfl,?_⟩) (KB.out _ GB.out) ?_
   ·intro w hSw;(try dsimp only at hSw);go_simp
   simp only [Act.put,sIb,sC0,sC1];refine zIA (i:=9) (oi:=⟨some 142,.move (.tmp 2),3, "table.go:77",#[⟨25,.gcOnly .lateStores⟩],none⟩) (v:=(.int .i64 (q:Int))) rfl (by kernel_rfl) (fun _ _ _ h=>h) (Or.inl ⟨by rfl,?_⟩)  ?_
   ·intro w hSw;(try dsimp only at hSw);go_simp
   simp only [Act.put,sIb,sC0,sC1];refine zIA (i:=10) (oi:=⟨some 143,.move (.tmp 0),84, "table.go:77",#[],none⟩) (v:=(.pointer (some ⟨bt,0,none⟩))) rfl (by kernel_rfl) (fun _ _ _ h=>h) (Or.inl ⟨by rfl,?_⟩)  ?_
   ·intro w hSw;(try dsimp only at hSw);go_simp
   simp only [Act.put,sIb,sC0,sC1];refine zIA (i:=11) (oi:=⟨some 144,.nilCheck (.tmp 143),0, "table.go:77",#[⟨10,.data⟩],none⟩) (v:=(.pointer (some ⟨bt,0,none⟩))) rfl (by kernel_rfl) (fun _ _ _ h=>h) (Or.inl ⟨by rfl,?_⟩)  ?_
   ·intro w hSw;(try dsimp only at hSw);go_simp
   simp only [Act.put,sIb,sC0,sC1];refine zIA (i:=12) (oi:=⟨some 145,.fieldAddr 103 (.tmp 144) 2,0, "table.go:77",#[⟨11,.data⟩],none⟩) (v:=(.pointer (some ⟨bt,4,none⟩))) rfl (by kernel_rfl) (fun _ _ _ h=>h) (Or.inl ⟨by rfl,?_⟩)  ?_
   ·intro w hSw;(try dsimp only at hSw);go_simp
   simp only [Act.put,sIb,sC0,sC1];refine zhA (i:=13) (oi:=⟨some 146,.load 47 (.tmp 145),47, "table.go:77",#[⟨12,.data⟩],none⟩) (v:=(.slice (some ⟨go,0,none⟩) n n)) rfl (by kernel_rfl) (fun _ _ _ h=>h) (Or.inl ⟨by rfl,?_⟩) (KB.out _ GB.out) ?_
   ·intro w hSw;(try dsimp only at hSw);go_simp
   simp only [Act.put,sIb,sC0,sC1];refine zIA (i:=14) (oi:=⟨some 147,.move (.tmp 2),3, "table.go:77",#[],none⟩) (v:=(.int .i64 (q:Int))) rfl (by kernel_rfl) (fun _ _ _ h=>h) (Or.inl ⟨by rfl,?_⟩)  ?_
   ·intro w hSw;(try dsimp only at hSw);go_simp
   simp only [Act.put,sIb,sC0,sC1];refine zIA (i:=15) (oi:=⟨some 148,.indexAddr 47 (.tmp 146) (.tmp 147),0, "table.go:77",#[⟨13,.data⟩,⟨14,.data⟩],none⟩) (v:=(.pointer (some ⟨go,q,none⟩))) rfl (by kernel_rfl) (fun _ _ _ h=>h) (Or.inl ⟨by rfl,?_⟩)  ?_
   ·intro w hSw;(try dsimp only at hSw);go_simp
   simp only [Act.put,sIb,sC0,sC1];refine zhA (i:=16) (oi:=⟨some 149,.load 3 (.tmp 148),3, "table.go:77",#[⟨15,.data⟩],none⟩) (v:=(.int .i64 (oo:Int))) rfl (by kernel_rfl) (fun _ _ _ h=>h) (Or.inl ⟨by rfl,?_⟩) (KB.out _ GB.out) ?_
   ·intro w hSw;(try dsimp only at hSw);go_simp
   simp only [Act.put,sIb,sC0,sC1];refine zIA (i:=17) (oi:=⟨some 150,.move (.tmp 0),84, "table.go:77",#[],none⟩) (v:=(.pointer (some ⟨bt,0,none⟩))) rfl (by kernel_rfl) (fun _ _ _ h=>h) (Or.inl ⟨by rfl,?_⟩)  ?_
   ·intro w hSw;(try dsimp only at hSw);go_simp
   simp only [Act.put,sIb,sC0,sC1];refine zIA (i:=18) (oi:=⟨some 151,.nilCheck (.tmp 150),0, "table.go:77",#[⟨17,.data⟩],none⟩) (v:=(.pointer (some ⟨bt,0,none⟩))) rfl (by kernel_rfl) (fun _ _ _ h=>h) (Or.inl ⟨by rfl,?_⟩)  ?_
   ·intro w hSw;(try dsimp only at hSw);go_simp
   simp only [Act.put,sIb,sC0,sC1];refine zIA (i:=19) (oi:=⟨some 152,.fieldAddr 103 (.tmp 151) 1,0, "table.go:77",#[⟨18,.data⟩],none⟩) (v:=(.pointer (some ⟨bt,3,none⟩))) rfl (by kernel_rfl) (fun _ _ _ h=>h) (Or.inl ⟨by rfl,?_⟩)  ?_
   ·intro w hSw;(try dsimp only at hSw);go_simp
   simp only [Act.put,sIb,sC0,sC1];refine zhA (i:=20) (oi:=⟨some 153,.load 47 (.tmp 152),47, "table.go:77",#[⟨19,.data⟩],none⟩) (v:=(.slice (some ⟨gb,0,none⟩) i cb)) rfl (by kernel_rfl) (fun _ _ _ h=>h) (Or.inl ⟨by rfl,?_⟩) (KB.out _ GB.out) ?_
   ·intro w hSw;(try dsimp only at hSw);go_simp
   simp only [Act.put,sIb,sC0,sC1];refine zIA (i:=21) (oi:=⟨some 154,.move (.tmp 1),3, "table.go:77",#[],none⟩) (v:=(.int .i64 (p:Int))) rfl (by kernel_rfl) (fun _ _ _ h=>h) (Or.inl ⟨by rfl,?_⟩)  ?_
   ·intro w hSw;(try dsimp only at hSw);go_simp
   simp only [Act.put,sIb,sC0,sC1];refine zIA (i:=22) (oi:=⟨some 155,.indexAddr 47 (.tmp 153) (.tmp 154),0, "table.go:77",#[⟨20,.data⟩,⟨21,.data⟩],none⟩) (v:=(.pointer (some ⟨gb,p,none⟩))) rfl (by kernel_rfl) (fun _ _ _ h=>h) (Or.inl ⟨by rfl,?_⟩)  ?_
   ·intro w hSw;(try dsimp only at hSw);go_simp
   simp only [Act.put,sIb,sC0,sC1];refine zhA (i:=23) (oi:=⟨some 156,.load 3 (.tmp 155),3, "table.go:77",#[⟨22,.data⟩],none⟩) (v:=(.int .i64 (ob:Int))) rfl (by kernel_rfl) (fun _ _ _ h=>h) (Or.inl ⟨by rfl,?_⟩) (KB.out _ GB.out) ?_
   ·intro w hSw;(try dsimp only at hSw);go_simp
   simp only [Act.put,sIb,sC0,sC1];refine zIA (i:=24) (oi:=⟨some 157,.indexAddr 47 (.tmp 136) (.tmp 137),0, "table.go:77",#[⟨3,.data⟩,⟨4,.data⟩,⟨0,.phase⟩,⟨1,.phase⟩,⟨2,.phase⟩,⟨3,.phase⟩,⟨4,.phase⟩,⟨5,.textOnly .lateStores⟩,⟨6,.textOnly .lateStoresUnsure⟩,⟨7,.textOnly .lateStoresUnsure⟩,⟨8,.phase⟩,⟨9,.textOnly .lateStores⟩,⟨10,.phase⟩,⟨11,.phase⟩,⟨12,.phase⟩,⟨13,.phase⟩,⟨14,.phase⟩,⟨15,.phase⟩,⟨16,.phase⟩,⟨17,.textOnly .lateStores⟩,⟨18,.textOnly .lateStoresUnsure⟩,⟨19,.textOnly .lateStoresUnsure⟩,⟨20,.phase⟩,⟨21,.textOnly .lateStores⟩,⟨22,.textOnly .lateStoresUnsure⟩,⟨23,.phase⟩],none⟩) (v:=(.pointer (some ⟨gb,p,none⟩))) rfl (by kernel_rfl) (fun _ _ _ h=>h) (Or.inl ⟨by rfl,?_⟩)  ?_
   ·intro w hSw;(try dsimp only at hSw);go_simp
   simp only [Act.put,sIb,sC0,sC1];refine zxB (i:=25) (o:=⟨none,.store 3 (.tmp 157) (.tmp 149),0, "table.go:77",#[⟨24,.data⟩,⟨16,.data⟩,⟨0,.phase⟩,⟨1,.phase⟩,⟨2,.phase⟩,⟨3,.phase⟩,⟨4,.phase⟩,⟨5,.textOnly .lateStores⟩,⟨6,.textOnly .lateStoresUnsure⟩,⟨7,.textOnly .lateStoresUnsure⟩,⟨8,.phase⟩,⟨9,.textOnly .lateStores⟩,⟨10,.phase⟩,⟨11,.phase⟩,⟨12,.phase⟩,⟨13,.phase⟩,⟨14,.phase⟩,⟨15,.phase⟩,⟨16,.phase⟩,⟨17,.textOnly .lateStores⟩,⟨18,.textOnly .lateStoresUnsure⟩,⟨19,.textOnly .lateStoresUnsure⟩,⟨20,.phase⟩,⟨21,.textOnly .lateStores⟩,⟨22,.textOnly .lateStoresUnsure⟩,⟨23,.phase⟩],none⟩) (by kernel_rfl) rfl (fun K hK=>?_);have h0:=(CG9.out.step GB.out).at (zoG hp);have h1:=(CG9.out.step GB.out).fz p;go_simp;clear h0 h1;obtain ⟨V82,hW⟩:∃V82,(D81.setCell ⟨gb,p,none⟩ (.int .i64 (oo:Int)))=V82:=⟨_,rfl⟩
   have CG10:Hid (Cel V82 gb 3 (wf i (upF (nf14 bs) p (oo:Int)) ++ rr)):=by
    unfold Hid;rw [←hW,←wfr_set hp];exact (CG9.out.step GB.out).set p _
   have TI10:Hid (Ty 3 V9 V82):=by unfold Hid;rw [←hW];exact (Ty.of GB.out).trans (Ty.set (CG9.out.step GB.out))
   have CO10:Hid (Cel V82 go 3 (wf n (nf14 os))):=by unfold Hid;rw [←hW];exact (CO9.out.step GB.out).ne HM.out.ne
   have TH10:Hid (zLA (fun b=>b=ga∨b=gb∨b=go∨b=bt) w V82):=by unfold Hid;rw [←hW];exact (TH9.out.trans (.ofBelow GB.out)).setCell (.inr (.inr (.inl rfl))) _ _
   clear GB CG9 CO9 TH9;rw [hW];clear hW;refine hK.out _ _ (fun h=>absurd h (by decide)) ?_;clear hK
   try simp only [Act.put]
   refine zIA (i:=26) (oi:=⟨some 158,.indexAddr 47 (.tmp 141) (.tmp 142),0, "table.go:77",#[⟨8,.data⟩,⟨9,.data⟩,⟨0,.phase⟩,⟨1,.phase⟩,⟨2,.phase⟩,⟨3,.phase⟩,⟨4,.phase⟩,⟨5,.phase⟩,⟨6,.phase⟩,⟨7,.phase⟩,⟨8,.phase⟩,⟨9,.phase⟩,⟨10,.phase⟩,⟨11,.phase⟩,⟨12,.phase⟩,⟨13,.phase⟩,⟨14,.phase⟩,⟨15,.phase⟩,⟨16,.phase⟩,⟨17,.phase⟩,⟨18,.phase⟩,⟨19,.phase⟩,⟨20,.phase⟩,⟨21,.phase⟩,⟨22,.phase⟩,⟨23,.phase⟩,⟨24,.phase⟩,⟨25,.phase⟩],none⟩) (v:=(.pointer (some ⟨go,q,none⟩))) rfl (by kernel_rfl) (fun _ _ _ h=>h) (Or.inl ⟨by rfl,?_⟩)  ?_
   ·intro w hSw;(try dsimp only at hSw);go_simp
   simp only [Act.put,sIb,sC0,sC1];refine zxB (i:=27) (o:=⟨none,.store 3 (.tmp 158) (.tmp 156),0, "table.go:77",#[⟨26,.data⟩,⟨23,.data⟩,⟨25,.chain⟩,⟨0,.phase⟩,⟨1,.phase⟩,⟨2,.phase⟩,⟨3,.phase⟩,⟨4,.phase⟩,⟨5,.phase⟩,⟨6,.phase⟩,⟨7,.phase⟩,⟨8,.phase⟩,⟨9,.phase⟩,⟨10,.phase⟩,⟨11,.phase⟩,⟨12,.phase⟩,⟨13,.phase⟩,⟨14,.phase⟩,⟨15,.phase⟩,⟨16,.phase⟩,⟨17,.phase⟩,⟨18,.phase⟩,⟨19,.phase⟩,⟨20,.phase⟩,⟨21,.phase⟩,⟨22,.phase⟩,⟨23,.phase⟩,⟨24,.phase⟩,⟨25,.phase⟩],none⟩) (by kernel_rfl) rfl (fun K hK=>?_);have h0:=CO10.out.nf hq;have h1:=CO10.out.fz q;go_simp;clear h0 h1;obtain ⟨V83,hW⟩:∃V83,(V82.setCell ⟨go,q,none⟩ (.int .i64 (ob:Int)))=V83:=⟨_,rfl⟩
   have CO11:Hid (Cel V83 go 3 (wf n (upF (nf14 os) q (ob:Int)))):=by unfold Hid;rw [←hW];exact CO10.out.nfset hq _
   have TI11:Hid (Ty 3 V9 V83):=by unfold Hid;rw [←hW];exact TI10.out.trans (Ty.set CO10.out)
   have CG11:Hid (Cel V83 gb 3 (wf i (upF (nf14 bs) p (oo:Int)) ++ rr)):=by unfold Hid;rw [←hW];exact CG10.out.ne (fun e=>HM.out.ne e.symm)
   have TH11:Hid (zLA (fun b=>b=ga∨b=gb∨b=go∨b=bt) w V83):=by unfold Hid;rw [←hW];exact TH10.out.setCell (.inr (.inr (.inr (.inl rfl)))) _ _
   clear CO10 TI10 CG10 TH10;rw [hW];clear hW;refine hK.out _ _ (fun h=>absurd h (by decide)) ?_;clear hK
   try simp only [Act.put]
   refine zUD (by kernel_rfl) ?_ _;have FIN:Hid (Xchd w bt ga gb go i n bs os F d rk k p q x (.returned (.tuple #[])) V83):=by
    refine ⟨rfl,⟨⟨_,cb,np,ap,lp,cp,by rw [EMN.out];exact CB9.out.ty13 TI11.out (by decide),ZP9.out.ty TI11.out (by decide),hcb,fun _=>⟨rfl,rr,?_⟩⟩,AZ9.out.ty TI11.out (by decide) (by decide),?_,HM.out.ne,by rw [List.length_set];exact HM.out.lb,by rw [List.length_set];exact HM.out.lo,HM.out.hm,HM.out.hn,HM.out.rk64⟩,TH11.out⟩
    ·have e:=CG11.out
     rw [zbA (G:=nf14 (bs.set p (os.getD q 0))) fun t ht=>?_] at e
     ·exact e
     ·rw [EOO.out];exact (zRI (by rw [HM.out.lb];exact hp) t).symm
    ·have e:=CO11.out
     rw [zbA (G:=nf14 (os.set q (bs.getD p 0))) fun t ht=>?_] at e
     ·exact e
     ·rw [EOB.out];exact (zRI (by rw [HM.out.lo];exact hq) t).symm
   clear CB9 ZP9 AZ9 CG11 CO11 TI11 TH11;go_wp2;go_end0;exact FIN.out
end Go.Proofs.YtjnokjgbeploaaaGreat
