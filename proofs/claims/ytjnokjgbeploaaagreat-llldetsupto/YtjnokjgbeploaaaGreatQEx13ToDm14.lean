/-
 QEx13ToDm14: Ex13, Tf14, Dm14, joined.
-/
import Derived.Test.YtjnokjgbeploaaaGreatQCz14ToTm14
import Derived.Test.YtjnokjgbeploaaaGreatQWf14ToTb14
import Derived.Test.YtjnokjgbeploaaaGreatQTa14
import Derived.Test.YtjnokjgbeploaaaGreatQDo14ToIx14

set_option maxRecDepth 100000
set_option maxHeartbeats 6400000
set_option linter.unusedVariables false
set_option linter.unusedSimpArgs false
namespace Go.Proofs.YtjnokjgbeploaaaGreat
open Go.RowKit
theorem Tbl.congr14 {A:Nat→Nat→Int} {m n:Nat} {f g f' g':Nat→Nat} {F:Nat→Nat→Int} {d:Int} (h:Tbl A m n f g F d) (hf:∀i,i<m→f' i=f i) (hg:∀j,j<n→g' j=g j):Tbl A m n f' g' F d:=by
 refine ⟨h.nz,by rw [zfC hf];exact h.de,fun i j hi hj=>?_,fun i j hi hj e=>?_,fun i j hi hj e=>?_,fun i j hi hj=>?_,fun i hi=>?_,fun j hj=>?_,fun c hc=>?_⟩
 ·rw [h.be i j hi hj]
  exact zfC fun r hr=>by
   unfold stf;rw [hg j hj,hf r hr]
 ·exact h.fi i j hi hj (by rw [←hf i hi,←hf j hj];exact e)
 ·exact h.gi i j hi hj (by rw [←hg i hi,←hg j hj];exact e)
 ·rw [hf i hi,hg j hj];exact h.fg i j hi hj
 ·rw [hf i hi];exact h.fl i hi
 ·rw [hg j hj];exact h.gl j hj
 ·rcases h.cov c hc with ⟨i,hi,e⟩ | ⟨j,hj,e⟩
  ·exact .inl ⟨i,hi,by rw [hf i hi];exact e⟩
  ·exact .inr ⟨j,hj,by rw [hg j hj];exact e⟩
theorem zuG (A:Nat→Nat→Int) (m n:Nat):zBE A m n ((List.range m).map (n + ·)) (List.range n) A 1 0 0 :=
 ⟨(Tbl.start A m n).congr14 (fun i hi=>by simp [gd,hi]) (fun j hj=>by simp [gd,hj]),fun r _ hr=>by simp [hr],fun r hr=>by omega,by simp⟩
theorem zcH {m n k:Nat} {zs:List Int} {f:Nat→Nat} (h:∀z∈zs,(z.natAbs:Int)<pw k) (hm:m≤64):((dcl (en n zs) m n f).natAbs:Int)<pw (64*k+7):=by
 have ha:=zYI (c:=n) h;have h0:1≤2 ^ (64*k):=Nat.two_pow_pos _;have h1:=dcl_abs (A:=en n zs) (m:=m) (n:=n) (f:=f) (X:=2 ^ (64*k)) hm h0 ha;have h4:(64*2 ^ (64*k)) ^ m≤(64*2 ^ (64*k)) ^ 64:=Nat.pow_le_pow_right (by omega) hm;have h5:(64*2 ^ (64*k)) ^ 64<2 ^ (64*(64*k+7)):=by
  have e:(64:Nat)*2 ^ (64*k)=2 ^ (64*k+6):=by rw [Nat.pow_add,Nat.mul_comm]
  rw [e,←Nat.pow_mul];exact Nat.pow_lt_pow_right (by omega) (by omega)
 have e:=pw13 (64*k+7);rw [e];omega
theorem below14 {S:Nat→Prop} {w w1 w2:World} (b:Below w.heap.size w w1) (t:zLA S w1 w2) (hS:∀c,S c→w.heap.size≤c):Below w.heap.size w w2 :=
 b.trans ⟨t.os,t.tape,t.output,t.size,fun c hc=>t.block c (Nat.lt_of_lt_of_le hc b.size) fun q=>by have:=hS c q;omega⟩
def TabF (A:Nat→Nat→Int) (w:World) (m n KW:Nat) (v:Value) (w':World):Prop :=
 ∃(bt ga gb go:Nat) (bs os:List Nat) (F:Nat→Nat→Int) (d:Int) (rk:Nat),v=.pointer (some ⟨bt,0,none⟩)∧w.heap.size≤bt∧TabM w' bt ga gb go m n bs os F d rk KW∧Tbl A m n (gd bs) (gd os) F d ∧
  (∀(s:Nat) (rows cols:Nat→Nat),rk<s→s≤min m n→(∀a,a<s→rows a<m)→(∀a,a<s→cols a<n)→det s (fun a b=>A (rows a) (cols b))=0)
theorem tableFor_any {w:World} {va:Value} {m n k:Nat} {zs:List Int} {kk:Int} (ha:Mx w va m n zs k) (hk:k≤4000000000) (h0 : -1≤kk) (h1:kk≤m) (h2:kk≤n) :
  Calls Tryz.prog 56 #[va,.int .i64 kk] w fun e w'=>∃v,e=.returned v∧TabF (en n zs) w m n (64*k+7) v w'∧Below w.heap.size w w':=by
 have M0:=ha;obtain ⟨aa,ca,rfl,hm64,hn64⟩:=ha.form;have HZA:Hid (∀z∈zs,(z.natAbs:Int)<pw k):=by obtain ⟨_,_,_,_,h,_⟩:=ha;exact h.lt
 obtain ⟨la,hla⟩:∃la,m*n=la:=⟨_,rfl⟩
 rw [hla] at M0 ⊢;obtain ⟨W0,hW⟩:∃W0,w.alloc (matO m n (.slice aa la ca))=W0:=⟨_,rfl⟩
 obtain ⟨b0,sz0⟩:=alo1 w (matO m n (.slice aa la ca));rw [hW] at b0 sz0;have PM:Hid (Cel W0 w.heap.size 24 (matc m n (.slice aa la ca))):=by unfold Hid;rw [←hW];exact Cel.new w _ _
 have HT:=hid (tableOf_any (KW:=64*k+7) (M0.now b0) (by omega) (by omega));have G:=hid b0;have EW:=hid hW;have HKK:=hid hk;clear ha M0 b0 hW hla hk;go_enter Tryz.func56,Tryz.ntmps56;go_wp2_with fail;rw [EW.out];clear EW;refine HT.out.mono ?_;rintro e w1 ⟨bt,ga,gb,go,rfl,g1,g2,g3,g4,htm,b⟩;have TM:=hid htm;replace PM:=hid (PM.out.step b);replace G:=hid (zBA G.out b);have a0:=PM.out.at (i:=0) rfl;have a1:=PM.out.at (i:=1) rfl;have q1:IntKind.i64.wrap ((m:Int)-kk)=(m:Int)-kk:=by rw [zaA] <;> omega
 have q2:IntKind.i64.wrap ((m:Int)-kk+(n:Int))=(m:Int)-kk+(n:Int):=by rw [zaA] <;> omega
 have q3:IntKind.i64.wrap ((m:Int)-kk+(n:Int)-kk)=(m:Int)-kk+(n:Int)-kk:=by rw [zaA] <;> omega
 have SG:Hid (∀c,S14 bt ga gb go c→w.heap.size≤c):=fun c hc=>by rcases hc with e | e | e | e <;> subst e <;> omega
 have hbt:w.heap.size≤bt:=by omega
 clear HT htm b g1 g2 g3 g4
 by_cases hc:(m:Int)-kk+(n:Int)-kk<kk
 ·have hc2:decide ((m:Int)-kk+(n:Int)-kk<kk)=true:=decide_eq_true hc
  have HS:=hid (settle_any (A:=en n zs) TM.out (zuG _ m n) (by omega) (fun f=>zcH HZA.out hm64) (by have:=HKK.out;omega));go_wp2_with fail;refine HS.out.mono ?_;rintro e w2 ⟨rfl,bs,os,F,d,rk,htm,hst,hth⟩;have FIN:Hid (∃v,Ending.returned (Value.pointer (some ⟨bt,0,none⟩))=.returned v∧TabF (en n zs) w m n (64*k+7) v w2∧Below w.heap.size w w2):=by
   refine ⟨_,rfl,⟨bt,ga,gb,go,bs,os,F,d,rk,rfl,hbt,htm,hst.tb,fun s rows cols h1 _ h3 h4=>?_⟩,below14 G.out hth SG.out⟩;refine hst.tb.rank0 (P:=(List.range m).filter fun r=>decide (bs.getD r 0<n)) (fun i hi hf=>?_) (fun i j hi hj h5 h6=>hst.lo i hi h5 j hj h6) h3 h4 (by rw [←hst.cnt];exact h1);rw [List.mem_filter];exact ⟨by simpa using hi,by simpa using hf⟩
  clear HS htm hst hth TM;go_wp2;go_ret;exact FIN.out
 ·have hc2:decide ((m:Int)-kk+(n:Int)-kk<kk)=false:=decide_eq_false hc
  have FIN:Hid (∃v,Ending.returned (Value.pointer (some ⟨bt,0,none⟩))=.returned v∧TabF (en n zs) w m n (64*k+7) v w1∧Below w.heap.size w w1):=⟨_,rfl,⟨bt,ga,gb,go,_,_,_,_,_,rfl,hbt,TM.out,(zuG _ m n).tb,fun s rows cols h1 h2 _ _=>by omega⟩,G.out⟩
  clear TM;go_wp2;go_ret;exact FIN.out
theorem AZ.mx {w:World} {g m n:Nat} {F:Nat→Nat→Int} {k:Nat} (h:AZ w g (zF m n F) k) (hm:m≤64) (hn:n≤64):Mx w (matv m n (.slice (some ⟨g,0,none⟩) (m*n) (m*n))) m n (zF m n F) k:=by
 obtain ⟨ps,h1,h2⟩:=h;have hl:ps.length=m*n:=by rw [h2.1,zVB]
 have h4:m*n≤64*64:=Nat.mul_le_mul hm hn;refine ⟨_,ps,rfl,?_,h2.zcs.zis,zVB _ _ _,hm,hn⟩;rw [←hl];exact h1.prs (Nat.zero_le _) (by omega) (Nat.le_refl _)
theorem TabM.basis14 {w:World} {bt ga gb go m n:Nat} {bs os:List Nat} {F:Nat→Nat→Int} {d:Int} {rk k:Nat} (h:TabM w bt ga gb go m n bs os F d rk k):∃vb nd ad ld cd,Cel w bt 103 (tbL m n rk (.slice (some ⟨ga,0,none⟩) (m*n) (m*n)) vb (.slice (some ⟨go,0,none⟩) n n) (.bool nd) (.slice ad ld cd))∧Zm 0 w (.agg #[.bool nd,.slice ad ld cd]) d k∧In9 w vb (natv bs):=by
 obtain ⟨ab,cb,nd,ad,ld,cd,h1,h2,h3,h4⟩:=h.box;refine ⟨_,nd,ad,ld,cd,h1,h2,?_⟩;have hb:=h.lb;have e:(natv bs).length=m:=by simp [natv,hb]
 have hm:=h.hm;refine ⟨ab,cb,by rw [e],by omega,by omega,?_⟩
 by_cases q:0<m
 ·obtain ⟨rfl,r,hc⟩:=h4 q
  refine .inr ⟨gb,0,rfl,hc.blk,fun j hj=>?_⟩;have hj':j<m:=by omega
  have hjl:j<bs.length:=by omega
  rw [Nat.zero_add,hc.at (zoG hj')];simp [natv,nf14,hjl]
 ·exact .inl (List.length_eq_zero_iff.1 (by rw [e];omega))
theorem TabM.oth14 {w:World} {bt ga gb go m n:Nat} {bs os:List Nat} {F:Nat→Nat→Int} {d:Int} {rk k:Nat} (h:TabM w bt ga gb go m n bs os F d rk k):In9 w (.slice (some ⟨go,0,none⟩) n n) (natv os) :=
 h.oth.in14 h.lo (by have:=h.hn;omega) fun t _=>rfl
def Apt (v u:Value):Prop:=∀c,v.ownBlock=some c→u.ownBlock≠some c
structure Dq (w X:World) (bz go m:Nat) (O:Nat→Int) (v1 v2 v3:Value) (l1 l2 l3:List Nat):Prop where
 bw:Below w.heap.size w X
 og:w.heap.size≤go
 bg:w.heap.size≤bz
 bo:bz<go
 rb:Duo X bz (.bool false) (.slice none 0 0)
 ord:Cel X go 3 (wf m O)
 a:Ivs (go+1) X v1 l1
 b:Ivs (go+1) X v2 l2
 c:Ivs (go+1) X v3 l3
 ab:Apt v1 v2
 ac:Apt v1 v3
 bc:Apt v2 v3
section
variable {w X X':World} {bz go m:Nat} {O:Nat→Int} {v1 v2 v3:Value} {l1 l2 l3:List Nat}
theorem Dq.sz (h:Dq w X bz go m O v1 v2 v3 l1 l2 l3):go+1≤X.heap.size:=h.ord.blk
theorem Dq.now (h:Dq w X bz go m O v1 v2 v3 l1 l2 l3) (hb:Below X.heap.size X X'):Dq w X' bz go m O v1 v2 v3 l1 l2 l3 :=
 ⟨zBA h.bw hb,h.og,h.bg,h.bo,h.rb.step hb,h.ord.step hb,h.a.now hb,h.b.now hb,h.c.now hb,h.ab,h.ac,h.bc⟩
theorem Ivs.off14 {B:Nat} {v:Value} {l:List Nat} {g i:Nat} {u:Value} (h:Ivs B X v l) (hg:g<B):Ivs B (X.setCell ⟨g,i,none⟩ u) v l:=h.keep fun b L hb e=>by
 have:=(h.blk hb).1;exact (Below.heap_setCell X ⟨g,i,none⟩ u b (fun q=>by simp at q;omega)).trans e
theorem Dq.put (h:Dq w X bz go m O v1 v2 v3 l1 l2 l3) {i:Nat} (hi:i<m) (z:Int):Dq w (X.setCell ⟨go,i,none⟩ (.int .i64 z)) bz go m (upF O i z) v1 v2 v3 l1 l2 l3 :=
 ⟨bset h.bw h.og,h.og,h.bg,h.bo,h.rb.ne (by have:=h.bo;omega),h.ord.nfset hi z,h.a.off14 (by omega),h.b.off14 (by omega),h.c.off14 (by omega),h.ab,h.ac,h.bc⟩
theorem Dq.congr (h:Dq w X bz go m O v1 v2 v3 l1 l2 l3) {O':Nat→Int} (e:∀t,t<m→O t=O' t):Dq w X bz go m O' v1 v2 v3 l1 l2 l3 :=
 ⟨h.bw,h.og,h.bg,h.bo,h.rb,by rw [←zbA e];exact h.ord,h.a,h.b,h.c,h.ab,h.ac,h.bc⟩
theorem Cel.grown14 {v:Value} {T:TypeId} {b B:Nat} {L:List Value} {l:List Nat} (h:Cel X b T L) (hv:Ivs B X v l) (hg:X.grownBy X' v.ownBlock) (hb:b<B):Cel X' b T L :=
 (hg.block b h.blk (fun q=>by have:=(hv.blk q.symm).1;omega)).trans h
theorem Duo.grown14 {v:Value} {b B:Nat} {x y:Value} {l:List Nat} (h:Duo X b x y) (hv:Ivs B X v l) (hg:X.grownBy X' v.ownBlock) (hb:b<B):Duo X' b x y :=
 (hg.block b h.blk (fun q=>by have:=(hv.blk q.symm).1;omega)).trans h
theorem Ivs.grown14 {v u:Value} {B B':Nat} {l l':List Nat} (h:Ivs B X u l') (hg:X.grownBy X' v.ownBlock) (hne:Apt v u):Ivs B X' u l':=h.keep fun b L hb e=>by
 have hlt:=(Array.getElem?_eq_some_iff.1 e).1;rw [hg.block b hlt (fun q=>hne b q.symm hb)];exact e
theorem Apt.new {u:Value} {g l' cap:Nat} {B:Nat} {l:List Nat} {v:Value} (h:Apt v u) (hu:Ivs B X u l) (hb:v.ownBlock=some g∨g=X.heap.size):Apt (.slice (some ⟨g,0,none⟩) l' cap) u:=fun c hc q=>by
 simp only [Value.ownBlock,Option.some.injEq] at hc;subst hc;rcases hb with e | e
 ·exact h _ e q
 ·have:=hu.lt13 q;omega
theorem Apt.symm {v u:Value} (h:Apt v u):Apt u v:=fun c h1 h2=>h c h2 h1
theorem zjB {B:Nat} {l:List Nat} {v:Value} (h:Below w.heap.size w X) (hv:Ivs B X v l) (hB:w.heap.size≤B) (hg:X.grownBy X' v.ownBlock):Below w.heap.size w X' :=
 h.trans ⟨hg.os,hg.tape,hg.output,hg.size,fun k hk=>hg.block k (Nat.lt_of_lt_of_le hk h.size) (fun e=>by have:=(hv.blk e.symm).1;omega)⟩
theorem Dq.addA (h:Dq w X bz go m O v1 v2 v3 l1 l2 l3) {g l' cap t:Nat} (hI:Ivs (go+1) X' (.slice (some ⟨g,0,none⟩) l' cap) (l1 ++ [t])) (hg:X.grownBy X' v1.ownBlock) (hb:v1.ownBlock=some g∨g=X.heap.size):Dq w X' bz go m O (.slice (some ⟨g,0,none⟩) l' cap) v2 v3 (l1 ++ [t]) l2 l3 :=
 ⟨zjB h.bw h.a (by have:=h.og;omega) hg,h.og,h.bg,h.bo,h.rb.grown14 h.a hg (by have:=h.bo;omega),h.ord.grown14 h.a hg (by omega),hI,h.b.grown14 (B':=0) (l:=[]) hg h.ab,h.c.grown14 (B':=0) (l:=[]) hg h.ac,h.ab.new h.b hb,h.ac.new h.c hb,h.bc⟩
theorem Dq.addB (h:Dq w X bz go m O v1 v2 v3 l1 l2 l3) {g l' cap t:Nat} (hI:Ivs (go+1) X' (.slice (some ⟨g,0,none⟩) l' cap) (l2 ++ [t])) (hg:X.grownBy X' v2.ownBlock) (hb:v2.ownBlock=some g∨g=X.heap.size):Dq w X' bz go m O v1 (.slice (some ⟨g,0,none⟩) l' cap) v3 l1 (l2 ++ [t]) l3 :=
 ⟨zjB h.bw h.b (by have:=h.og;omega) hg,h.og,h.bg,h.bo,h.rb.grown14 h.b hg (by have:=h.bo;omega),h.ord.grown14 h.b hg (by omega),h.a.grown14 (B':=0) (l:=[]) hg h.ab.symm,hI,h.c.grown14 (B':=0) (l:=[]) hg h.bc,(h.ab.symm.new h.a hb).symm,h.ac,h.bc.new h.c hb⟩
theorem Dq.addC (h:Dq w X bz go m O v1 v2 v3 l1 l2 l3) {g l' cap t:Nat} (hI:Ivs (go+1) X' (.slice (some ⟨g,0,none⟩) l' cap) (l3 ++ [t])) (hg:X.grownBy X' v3.ownBlock) (hb:v3.ownBlock=some g∨g=X.heap.size):Dq w X' bz go m O v1 v2 (.slice (some ⟨g,0,none⟩) l' cap) l1 l2 (l3 ++ [t]) :=
 ⟨zjB h.bw h.c (by have:=h.og;omega) hg,h.og,h.bg,h.bo,h.rb.grown14 h.c hg (by have:=h.bo;omega),h.ord.grown14 h.c hg (by omega),h.a.grown14 (B':=0) (l:=[]) hg h.ac.symm,h.b.grown14 (B':=0) (l:=[]) hg h.bc.symm,hI,h.ab,(h.ac.symm.new h.a hb).symm,(h.bc.symm.new h.b hb).symm⟩
end
theorem zDH {W bs:List Nat} {p t:Nat}:upF (or1 W bs p) p (ixI bs (W.getD p 0)) t=or1 W bs (p+1) t:=by
 show (if t=p then ixI bs (W.getD p 0) else if t<p then ixI bs (W.getD t 0) else 0)=if t<p+1 then ixI bs (W.getD t 0) else 0
 by_cases e:t=p
 ·subst e;rw [if_pos rfl,if_pos (Nat.lt_succ_self _)]
 ·rw [if_neg e]
  by_cases q:t<p
  ·rw [if_pos q,if_pos (Nat.lt_succ_of_lt q)]
  ·rw [if_neg q,if_neg (by omega)]
theorem zvG {W bs os:List Nat} {p:Nat}:(sltL W bs os p).length≤p∧(opnL W bs p).length≤p∧(freL W bs p).length≤p:=by
 have h1:(opnL W bs p).length≤p:=by unfold opnL;have:=List.length_filter_le (fun t=>decide (W.getD t 0 ∉ bs)) (List.range p);simpa using this
 refine ⟨by unfold sltL;rw [List.length_map];exact h1,h1,?_⟩;unfold freL;have:=List.length_filter_le (fun t=>decide (bs.getD t 0 ∉ W)) (List.range p)
 simpa using this
end Go.Proofs.YtjnokjgbeploaaaGreat
