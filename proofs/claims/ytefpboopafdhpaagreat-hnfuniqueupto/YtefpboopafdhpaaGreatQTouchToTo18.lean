/-
 QTouchToTo18: Touch, Sr13, Rl17, Tail3, Mm18, To18, joined.
-/
import Derived.Test.YtefpboopafdhpaaGreatQWordsToCarry
import Derived.Test.YtefpboopafdhpaaGreatQEachM11ToRows11
import Derived.Test.YtefpboopafdhpaaGreatQDu12ToHs18
import Derived.Test.YtefpboopafdhpaaGreatQFil9ToRowsOf9
import Derived.Test.YtefpboopafdhpaaGreatQRm12ToLa18
import Derived.Test.YtefpboopafdhpaaGreatQZModToLess6

set_option maxRecDepth 100000
set_option maxHeartbeats 6400000
set_option linter.unusedVariables false
set_option linter.unusedSimpArgs false
namespace Go.Proofs.YtefpboopafdhpaaGreat
open Go.RowKit
structure Touch (S:Nat→Prop) (w w':World):Prop where
 os:w'.os=w.os
 tape:w'.tape=w.tape
 output:w'.output=w.output
 size:w.heap.size≤w'.heap.size
 block:∀k,k<w.heap.size→¬S k→w'.heap[k]?=w.heap[k]?
theorem Touch.refl (S:Nat→Prop) (w:World):Touch S w w:=⟨rfl,rfl,rfl,Nat.le_refl _,fun _ _ _=>rfl⟩
theorem Touch.trans {S:Nat→Prop} {a b c:World} (h:Touch S a b) (k:Touch S b c):Touch S a c :=
 ⟨k.os.trans h.os,k.tape.trans h.tape,k.output.trans h.output,Nat.le_trans h.size k.size,fun i hi hS=>(k.block i (Nat.lt_of_lt_of_le hi h.size) hS).trans (h.block i hi hS)⟩
theorem Touch.ofBelow {S:Nat→Prop} {w w':World} (h:Below w.heap.size w w'):Touch S w w':=⟨h.os,h.tape,h.output,h.size,fun k hk _=>h.block k hk⟩
theorem Touch.drewN {S:Nat→Prop} {w0 w:World} (h:Touch S w0 w) (n:Nat):Touch S w0 (w.drewN n):=⟨h.os,h.tape,h.output,h.size,h.block⟩
theorem Touch.setCell {S:Nat→Prop} {w0 w:World} (h:Touch S w0 w) {g:Nat} (hg:w0.heap.size≤g∨S g) (j:Nat) (x:Value):Touch S w0 (w.setCell ⟨g,j,none⟩ x):=by
 have b:=(Below.refl g w).setCell (p:=⟨g,j,none⟩) (Nat.le_refl _) x;refine ⟨b.os.trans h.os,b.tape.trans h.tape,b.output.trans h.output,Nat.le_trans h.size b.size,fun k hk hS=>?_⟩;rw [Below.heap_setCell w _ x k (fun e=>by subst e;rcases hg with q | q;(· exact absurd hk (by omega));exact hS q)];exact h.block k hk hS
theorem Touch.grown {S:Nat→Prop} {w0 w w':World} {row:Option Nat} (h:Touch S w0 w) (hg:w.grownBy w' row) (hr:∀k,row=some k→w0.heap.size≤k∨S k):Touch S w0 w' :=
 ⟨hg.os.trans h.os,hg.tape.trans h.tape,hg.output.trans h.output,Nat.le_trans h.size hg.size,fun k hk hS=>by
  rw [hg.block k (Nat.lt_of_lt_of_le hk h.size) (fun e=>by rcases hr k e.symm with q | q;(· omega);exact hS q)];exact h.block k hk hS⟩
open Go.RowKit Go.Shelf
def Ivs (B:Nat) (w:World) (v:Value) (l:List Nat):Prop:=w.ownsRow B 3 1 v l.length (l.map fun (a:Nat)=>Value.int .i64 (a:Int))
theorem Ivs.nil (B:Nat) (w:World):Ivs B w (.slice none 0 0) []:=World.ownsRow_nil _ _ _ _
theorem Ivs.now {B:Nat} {w w':World} {v:Value} {l:List Nat} (h:Ivs B w v l) (hb:Below w.heap.size w w'):Ivs B w' v l:=zKF h fun b _ hlt=>hb.block b hlt
theorem Ivs.form {B:Nat} {w:World} {v:Value} {l:List Nat} (h:Ivs B w v l):∃a cap,v=.slice a l.length cap∧l.length≤cap∧(0<l.length→∃g,a=some ⟨g,0,none⟩):=by
 obtain ⟨q1,⟨q2,q3⟩ | ⟨g,cap,cur,q2,q3,q4,q5,q6⟩⟩:=h
 ·exact ⟨none,0,by rw [q2,q3],by omega,fun q=>by omega⟩
 ·exact ⟨_,cap,q2,by omega,fun _=>⟨g,rfl⟩⟩
theorem Ivs.blk {B b:Nat} {w:World} {v:Value} {l:List Nat} (h:Ivs B w v l) (hb:v.ownBlock=some b):B≤b∧∃L,w.heap[b]?=some (.cells L 3 (0,0)):=by
 obtain ⟨_,⟨r2,_⟩ | ⟨g2,cap,cur,r2,r3,r4,r5⟩⟩:=h
 ·rw [r2] at hb;cases hb
 ·rw [r2] at hb
  simp only [Value.ownBlock,Option.some.injEq] at hb;subst hb;exact ⟨r3,cur,r4⟩
theorem Tryz.infoI13:(Tryz.prog.info? 3).map (fun i=>(i.zero,i.size,i.bytes))=some (some (.int .i64 0),1,8):=by kernel_rfl
theorem head_add13 (g j:Nat):(⟨g,0,none⟩:Addr).add j=⟨g,j,none⟩:=by unfold Addr.add;split <;> simp_all
theorem zxA (w:World) {ops:Array Oper} {rest:List Oper} {o:Oper} {a:Act} {Q:Exit→Act→World→Prop}
  (hgd:o.guard=none) (s x:Operand) (hop:o.op=.call { callee:=.builtin .append,args:=#[s,x],argTypes:=#[33,33] })
  (B:Nat) (v:Value) (l:List Nat) (t:Nat) (hs:a.eval s=v) (hP:Ivs B w v l) (gx:Nat) (hx:a.eval x=.slice (some ⟨gx,0,none⟩) 1 1) (hc:w.cell? ⟨gx,0,none⟩=some (.int .i64 (t:Int))) (hlen:l.length≤1000000) (hBs:B≤w.heap.size)
  (hK:∀g' cap' w',Hid (Ivs B w' (.slice (some ⟨g',0,none⟩) (l.length+1) cap') (l ++ [t]))→Hid (w.grownBy w' v.ownBlock)→Hid (v.ownBlock=some g'∨g'=w.heap.size)→wpList Tryz.prog ops Q rest (a.put o.dst (.slice (some ⟨g',0,none⟩) (l.length+1) cap')) w') :
  wpList Tryz.prog ops Q (o :: rest) a w:=by
 obtain ⟨i,hi,hz,hsz,hby⟩:=info_parts Tryz.infoI13;refine wpList_append_lies w hgd s x 33 hop B 3 i (.int .i64 0) 1 8 Tryz.underlying33 hi hz hsz hby rfl (by omega) v l.length _ hs hP ⟨gx,0,none⟩ 1 1 [.int .i64 (t:Int)] hx rfl ?_ ?_ (by omega) (by unfold maxLen;omega) (by omega) hBs w.heap.size rfl ?_
 ·intro j u' hj
  match j,hj with
  | 0,hj=>simp at hj;subst hj;rw [head_add13];exact hc
 ·intro u' hu'
  simp at hu';subst hu'
  rfl
 ·intro g' cap' w' k1 k2 k3 k4
  refine hK _ _ w' ?_ k2 k3;unfold Hid Ivs;rw [List.length_append,List.length_cons,List.length_nil,List.map_append];exact k1
theorem Touch.ty13 {g:Nat} {w w':World} {ps:List (Value×Value)} (ht:Touch (· = g) w w') (hA:Arr w g ps):Ty 41 w w':=by
 refine ⟨ht.size,fun b L T fr e hne=>?_⟩;refine (ht.block b (Array.getElem?_eq_some_iff.1 e).1 fun q=>?_).trans e;have q':b=g:=q;subst q';have:=e.symm.trans (show w.heap[_]?=_ from hA.1);simp only [Option.some.injEq,Obj.cells.injEq] at this;exact hne this.2.1
theorem Arr.touch {g g':Nat} {w w':World} {ps:List (Value×Value)} (h:Arr w g' ps) (ht:Touch (· = g) w w') (hne:g'≠g):Arr w' g' ps:=⟨(ht.block g' h.1.blk hne).trans h.1,h.2⟩
theorem Cel.ty13 {T T':TypeId} {w w':World} {b:Nat} {L:List Value} (h:Cel w b T L) (ht:Ty T' w w') (hT:T≠T'):Cel w' b T L:=ht.2 b _ _ _ h hT
theorem Zms.at {w:World} {g t k:Nat} {ps:List (Value×Value)} {zs:List Int} (h:Zms w ps zs k) (hA:Arr w g ps) (ht:t<zs.length) :
  ∃nv av lw cv,w.cell? ⟨g,t*2,none⟩=some (.bool nv)∧w.cell? ⟨g,t*2+1,none⟩=some (.slice av lw cv)∧w.frozen? ⟨g,t*2,none⟩=false∧w.frozen? ⟨g,t*2+1,none⟩=false∧Zm 0 w (.agg #[.bool nv,.slice av lw cv]) (zs.getD t 0) k:=by
 have hp:ps[t]?=some (ps[t]'(by rw [h.1];exact ht)):=List.getElem?_eq_getElem _;obtain ⟨n0,a0,l0,c0,e⟩:=hA.2 _ (List.getElem_mem (l:=ps) (n:=t) (by rw [h.1];exact ht));have hz:zs[t]?=some (zs.getD t 0):=by simp [ht]
 have q:=hA.at hp;have z:=h.2 t _ _ hp hz;rw [e] at q z;exact ⟨n0,a0,l0,c0,q.1,q.2,hA.1.fz _,hA.1.fz _,z⟩
theorem Zms.more {w:World} {ps:List (Value×Value)} {zs:List Int} {k l:Nat} (h:Zms w ps zs k) (hl:k≤l):Zms w ps zs l:=⟨h.1,fun j p z hp hz=>(h.2 j p z hp hz).more hl⟩
end Go.Proofs.YtefpboopafdhpaaGreat
namespace Go.Proofs.YtefpboopafdhpaaGreat
open Go.RowKit
def gv17 (m n:Nat) (gs:Nat→Nat):List Value:=(List.range m).map fun i=>rowv n (gs i)
theorem zoE {m n i:Nat} {gs:Nat→Nat} {r:List Value} (hi:i<m):(gv17 m n gs ++ r)[i]?=some (rowv n (gs i)):=by
 rw [List.getElem?_append_left (by simpa [gv17] using hi)];simp [gv17,hi]
def Rw17 (w:World) (g n:Nat) (F:Nat→Int) (k:Nat):Prop:=∃ps,Arr w g ps∧Zms w ps ((List.range n).map F) k
theorem Rw17.now {w w':World} {g n k:Nat} {F:Nat→Int} (h:Rw17 w g n F k) (hb:Below w.heap.size w w'):Rw17 w' g n F k:=by
 obtain ⟨ps,h1,h2⟩:=h;exact ⟨ps,h1.step hb,h2.now hb⟩
theorem Rw17.ty {T:TypeId} {w w':World} {g n k:Nat} {F:Nat→Int} (h:Rw17 w g n F k) (ht:Ty T w w') (h1:41≠T) (h2:43≠T):Rw17 w' g n F k:=by
 obtain ⟨ps,q1,q2⟩:=h;exact ⟨ps,⟨q1.1.ty13 ht h1,q1.2⟩,q2.ty ht h2⟩
theorem Rw17.touch {w w':World} {g g' n k:Nat} {F:Nat→Int} {ps:List (Value×Value)} (h:Rw17 w g n F k) (ht:Touch (· = g') w w') (hA:Arr w g' ps) (hne:g≠g'):Rw17 w' g n F k:=by
 obtain ⟨qs,q1,q2⟩:=h;exact ⟨qs,q1.touch ht hne,q2.ty (ht.ty13 hA) (by decide)⟩
theorem Rw17.congr {w:World} {g n k:Nat} {F G:Nat→Int} (h:Rw17 w g n F k) (e:∀j,j<n→F j=G j):Rw17 w g n G k:=by
 obtain ⟨ps,h1,h2⟩:=h;exact ⟨ps,h1,by rw [List.map_congr_left (g:=F) fun t ht=>(e t (by simpa using ht)).symm];exact h2⟩
theorem Rw17.blk {w:World} {g n k:Nat} {F:Nat→Int} (h:Rw17 w g n F k):g<w.heap.size:=by
 obtain ⟨ps,h1,h2⟩:=h;exact h1.1.blk
def Sh17 (B:Nat) (w:World) (lv:Value) (m n:Nat) (gs:Nat→Nat) (L:Nat→Nat→Int) (k:Nat):Prop :=
 ((m=0∧lv=.slice none 0 0)∨(0<m∧∃Lb cap r,lv=.slice (some ⟨Lb,0,none⟩) m cap∧m≤cap∧B≤Lb∧Cel w Lb 22 (gv17 m n gs ++ r)))∧(∀i j,i<m→j<m→gs i=gs j→i=j)∧∀i,i<m→B≤gs i∧Rw17 w (gs i) n (L i) k
theorem Sh17.now {B m n k:Nat} {w w':World} {lv:Value} {gs:Nat→Nat} {L:Nat→Nat→Int} (h:Sh17 B w lv m n gs L k) (hb:Below w.heap.size w w'):Sh17 B w' lv m n gs L k:=by
 obtain ⟨h1,h4,h5⟩:=h;refine ⟨?_,h4,fun i hi=>⟨(h5 i hi).1,(h5 i hi).2.now hb⟩⟩;rcases h1 with h1 | ⟨h0,Lb,cap,r,e,e0,e1,e2⟩
 ·exact .inl h1
 ·exact .inr ⟨h0,Lb,cap,r,e,e0,e1,e2.step hb⟩
theorem Sh17.ty {T:TypeId} {B m n k:Nat} {w w':World} {lv:Value} {gs:Nat→Nat} {L:Nat→Nat→Int} (h:Sh17 B w lv m n gs L k) (ht:Ty T w w') (t1:41≠T) (t2:43≠T) (t3:22≠T):Sh17 B w' lv m n gs L k:=by
 obtain ⟨h1,h4,h5⟩:=h;refine ⟨?_,h4,fun i hi=>⟨(h5 i hi).1,(h5 i hi).2.ty ht t1 t2⟩⟩;rcases h1 with h1 | ⟨h0,Lb,cap,r,e,e0,e1,e2⟩
 ·exact .inl h1
 ·exact .inr ⟨h0,Lb,cap,r,e,e0,e1,e2.ty13 ht t3⟩
theorem Sh17.congr {B m n k:Nat} {w:World} {lv:Value} {gs:Nat→Nat} {L L':Nat→Nat→Int} (h:Sh17 B w lv m n gs L k) (e:∀i j,i<m→j<n→L i j=L' i j):Sh17 B w lv m n gs L' k :=
 ⟨h.1,h.2.1,fun i hi=>⟨(h.2.2 i hi).1,(h.2.2 i hi).2.congr fun j hj=>e i j hi hj⟩⟩
theorem Sh17.line {B m n k Lb cap:Nat} {w:World} {gs:Nat→Nat} {L:Nat→Nat→Int} (h:Sh17 B w (.slice (some ⟨Lb,0,none⟩) m cap) m n gs L k):B≤Lb∧m≤cap∧Lb<w.heap.size∧∀i,i<m→w.cell? ⟨Lb,i,none⟩=some (rowv n (gs i))∧w.frozen? ⟨Lb,i,none⟩=false:=by
 obtain ⟨h1,h4,h5⟩:=h;rcases h1 with ⟨_,h1⟩ | ⟨h0,Lb',cap',r,e,e0,e1,e2⟩
 ·cases h1
 ·simp only [Value.slice.injEq,Option.some.injEq,Addr.mk.injEq,and_true,true_and] at e
  obtain ⟨rfl,rfl⟩:=e;exact ⟨e1,e0,e2.blk,fun i hi=>⟨e2.at (zoE hi),e2.fz i⟩⟩
theorem Sh17.lineS {B m n k Lb cap i:Nat} {w:World} {gs:Nat→Nat} {L:Nat→Nat→Int} (h:Sh17 B w (.slice (some ⟨Lb,0,none⟩) m cap) m n gs L k) (hi:i<m):w.cell? ⟨Lb,i,none⟩=some (.slice (some ⟨gs i,0,none⟩) n n):=(h.line.2.2.2 i hi).1
theorem Rw17.at {w:World} {g n k j:Nat} {F:Nat→Int} (h:Rw17 w g n F k) (hj:j<n):∃m a l c,w.cell? ⟨g,j*2,none⟩=some (.bool m)∧w.cell? ⟨g,j*2+1,none⟩=some (.slice a l c)∧w.frozen? ⟨g,j*2,none⟩=false∧w.frozen? ⟨g,j*2+1,none⟩=false∧Zm 0 w (.agg #[.bool m,.slice a l c]) (F j) k:=by
 obtain ⟨ps,h1,h2⟩:=h;have hl:ps.length=n:=by rw [h2.1];simp
 have hp:ps[j]?=some (ps[j]'(by omega)):=List.getElem?_eq_getElem (by omega);have hq:((List.range n).map F)[j]?=some (F j):=by simp [hj]
 obtain ⟨m,a,l,c,e⟩:=h1.2 _ (List.getElem_mem (l:=ps) (n:=j) (by omega));have q:=h1.at hp;have z:=h2.2 j _ _ hp hq;rw [e] at q z;exact ⟨m,a,l,c,q.1,q.2,h1.1.fz _,h1.1.fz _,z⟩
theorem Rw17.put {w:World} {g n k j:Nat} {F:Nat→Int} {x y:Value} {z:Int} (h:Rw17 w g n F k) (hj:j<n) (hz:Zm 0 w (.agg #[x,y]) z k):Rw17 ((w.setCell ⟨g,j*2,none⟩ x).setCell ⟨g,j*2+1,none⟩ y) g n (fun i=>if i=j then z else F i) k∧Ty 41 w ((w.setCell ⟨g,j*2,none⟩ x).setCell ⟨g,j*2+1,none⟩ y):=by
 obtain ⟨ps,h1,h2⟩:=h;have hty:Ty 41 w ((w.setCell ⟨g,j*2,none⟩ x).setCell ⟨g,j*2+1,none⟩ y):=(Ty.set h1.1).trans (Ty.set (h1.1.set _ _));have hl:ps.length=n:=by rw [h2.1];simp
 refine ⟨⟨ps.set j (x,y),h1.put (by rw [hl];exact hj) hz.zi.isI,by simp [hl],fun i p q hp hq=>?_⟩,hty⟩;have hin:i<n:=by simpa using (List.getElem?_eq_some_iff.1 hq).1
 have hq':(if i=j then z else F i)=q:=by simpa [hin] using hq
 by_cases e:i=j
 ·subst e
  rw [List.getElem?_set_self (by rw [hl];exact hj),Option.some.injEq] at hp;rw [if_pos rfl] at hq';subst hp;subst hq';exact hz.ty hty (by decide)
 ·rw [List.getElem?_set_ne (by omega)] at hp
  rw [if_neg e] at hq';subst hq';exact (h2.2 i p (F i) hp (by simp [hin])).ty hty (by decide)
theorem zXB {P:Program} {md:Region.Mode} {ops:Array Oper} {Q:Exit→Act→World→Prop} {S:World→Prop} {n i j l:Nat} {oi oj ol:Oper} {fuel:Nat} {listed:Array Bool} {a:Act} {w:World} (hr:Region.ready md ops listed=[i,j,l]) (hi:ops[i]?=some oi) (hj:ops[j]?=some oj) (hl:ops[l]?=some ol)
  (h1:∀K':Act→World→Prop,Shut (∀a w,(i<n→S w)→ztA P md ops Q S n fuel (listed.setIfInBounds i true) a w→K' a w)→if Region.wanted oi (yielded ops a.tmps)=true then Oper.wp P oi a w K' Q else K' (a.put oi.dst undef) w)
  (h2:∀K':Act→World→Prop,Shut (∀a w,(j<n→S w)→ztA P md ops Q S n fuel (listed.setIfInBounds j true) a w→K' a w)→if Region.wanted oj (yielded ops a.tmps)=true then Oper.wp P oj a w K' Q else K' (a.put oj.dst undef) w)
  (h3:∀K':Act→World→Prop,Shut (∀a w,(l<n→S w)→ztA P md ops Q S n fuel (listed.setIfInBounds l true) a w→K' a w)→if Region.wanted ol (yielded ops a.tmps)=true then Oper.wp P ol a w K' Q else K' (a.put ol.dst undef) w) :
  ztA P md ops Q S n (fuel+1) listed a w:=by
 refine ⟨fun h0=>(by rw [hr] at h0;cases h0),fun q hq=>?_⟩;rw [hr] at hq;rcases List.mem_cons.1 hq with rfl | hq
 ·exact wpOp_step hi (fun K' hK=>h1 K' (fun a w hS hW=>hK a w ⟨hS,hW⟩))
 ·rcases List.mem_cons.1 hq with rfl | hq
  ·exact wpOp_step hj (fun K' hK=>h2 K' (fun a w hS hW=>hK a w ⟨hS,hW⟩))
  ·obtain rfl:=List.mem_singleton.1 hq
   exact wpOp_step hl (fun K' hK=>h3 K' (fun a w hS hW=>hK a w ⟨hS,hW⟩))
def mx18 (F0 F1:Nat→Int) (j t:Nat):Int:=if t<j then F1 t else F0 t
theorem Duo.ty18 {w:World} {b:Nat} {x y:Value} (d:Duo w b x y) (u u':Value):Ty 41 w ((w.setCell ⟨b,0,none⟩ u).setCell ⟨b,1,none⟩ u') :=
 (Ty.set (L:=[x,y]) d).trans (Ty.set (L:=[u,y]) (by have:=Duo.set0 d u;exact this))
theorem Rw17.more {w:World} {g n k l:Nat} {F:Nat→Int} (h:Rw17 w g n F k) (hl:k≤l):Rw17 w g n F l:=by
 obtain ⟨ps,h1,h2⟩:=h;exact ⟨ps,h1,h2.more hl⟩
def zVG (w:World) (gr n:Nat) (F:Nat→Int) (kw:Nat) (e:Ending) (w':World):Prop:=e=.returned (.tuple #[])∧Rw17 w' gr n F kw∧Touch (· = gr) w w'
theorem zqC {w w':World} {g n k:Nat} {F:Nat→Int} (h:Rw17 w g n F k) (ht:Touch (· = g) w w'):Ty 41 w w':=by
 obtain ⟨ps,p,_⟩:=h;exact ht.ty13 p
theorem zgB {w w':World} {g j:Nat} (h:Touch (· = g) w w') (x y:Value):Touch (· = g) w ((w'.setCell ⟨g,j*2,none⟩ x).setCell ⟨g,j*2+1,none⟩ y):=(h.setCell (.inr rfl) _ _).setCell (.inr rfl) _ _
theorem zjE {R F:Nat→Int} {n j t:Nat} (ht:t<n) (e:F j=R j):mx18 R F j t=mx18 R F (j+1) t:=by
 unfold mx18
 by_cases q:t<j
 ·rw [if_pos q,if_pos (by omega)]
 ·rw [if_neg q]
  by_cases q2:t=j
  ·subst q2;rw [if_pos (by omega),e]
  ·rw [if_neg (by omega)]
theorem zOD {R F:Nat→Int} {n j t:Nat} (ht:t<n):(if t=j then F j else mx18 R F j t)=mx18 R F (j+1) t:=by
 unfold mx18
 by_cases q2:t=j
 ·subst q2;rw [if_pos rfl,if_pos (by omega)]
 ·rw [if_neg q2]
  by_cases q:t<j
  ·rw [if_pos q,if_pos (by omega)]
  ·rw [if_neg q,if_neg (by omega)]
theorem Touch.tyS18 {S:Nat→Prop} {T:TypeId} {w w':World} (h:Touch S w w') (hS:∀b,S b→∃L,Cel w b T L):Ty T w w' :=
 ⟨h.size,fun b L' T' fr e hne=>(h.block b (Array.getElem?_eq_some_iff.1 e).1 (fun q=>by
  obtain ⟨L,q'⟩:=hS b q;have:=e.symm.trans (show w.heap[b]?=_ from q');simp only [Option.some.injEq,Obj.cells.injEq] at this;exact hne this.2.1)).trans e⟩
theorem Rw17.cel18 {w:World} {g n k:Nat} {F:Nat→Int} (h:Rw17 w g n F k):∃L,Cel w g 41 L:=by
 obtain ⟨ps,h1,_⟩:=h;exact ⟨_,h1.1⟩
abbrev zXC (g g':Nat):Nat→Prop:=fun b=>b=g∨b=g'
theorem Rw17.oth18 {S:Nat→Prop} {w w':World} {g n k:Nat} {F:Nat→Int} (h:Rw17 w g n F k) (ht:Touch S w w') (hty:Ty 41 w w') (hn:¬S g):Rw17 w' g n F k:=by
 obtain ⟨ps,h1,h2⟩:=h;exact ⟨ps,⟨(ht.block g h1.1.blk hn).trans h1.1,h1.2⟩,h2.ty hty (by decide)⟩
def zaH (w:World) (gr gl n:Nat) (F G:Nat→Int) (kw:Nat) (e:Ending) (w':World):Prop:=e=.returned (.tuple #[])∧Rw17 w' gr n F kw∧Rw17 w' gl n G kw∧Touch (zXC gr gl) w w'
theorem Touch.mono18 {S S':Nat→Prop} {w w':World} (h:Touch S w w') (hS:∀b,S b→S' b):Touch S' w w':=⟨h.os,h.tape,h.output,h.size,fun b hb hn=>h.block b hb fun q=>hn (hS b q)⟩
def BX18 (W w:World) (l:List Nat):Prop:=Below W.heap.size W w∧(∀b,b∈l→W.heap.size≤b∧Duo w b (.bool false) (.slice none 0 0))∧l.Nodup
theorem BX18.nil {W w:World} (h:Below W.heap.size W w):BX18 W w []:=⟨h,fun b hb=>(List.not_mem_nil hb).elim,List.nodup_nil⟩
theorem BX18.step {W w w':World} {l:List Nat} (h:BX18 W w l) (b:Below w.heap.size w w'):BX18 W w' l:=⟨below_step h.1 b,fun x hx=>⟨(h.2.1 x hx).1,(h.2.1 x hx).2.step b⟩,h.2.2⟩
theorem BX18.new {W w:World} {l:List Nat} (h:BX18 W w l):BX18 W (w.alloc zbox) (w.heap.size :: l):=by
 have k:=(Below.refl w.heap.size w).alloc (Nat.le_refl _) zbox;refine ⟨below_step h.1 k,fun x hx=>?_,List.nodup_cons.2 ⟨fun q=>?_,h.2.2⟩⟩
 ·rcases List.mem_cons.1 hx with rfl | q
  ·exact ⟨h.1.size,Duo.new w _ _⟩
  ·exact ⟨(h.2.1 x q).1,(h.2.1 x q).2.step k⟩
 ·have:=(h.2.1 _ q).2.blk
  omega
theorem BX18.two {W w:World} {a b:Nat} (h:BX18 W w [a,b]):(W.heap.size≤a∧Duo w a (.bool false) (.slice none 0 0))∧(W.heap.size≤b∧Duo w b (.bool false) (.slice none 0 0))∧a≠b:=⟨h.2.1 a (by simp),h.2.1 b (by simp),by have:=h.2.2;simp at this;exact this⟩
def zbI (w:World) (z:Int) (e:Ending) (w':World):Prop:=e=.returned (.bool (decide (z=0)))∧Below w.heap.size w w'
theorem cmpI_zero18 (z:Int):decide (cmpI z 0=0)=decide (z=0):=by
 unfold cmpI
 by_cases h:z=0
 ·subst h;rfl
 ·have:¬cmpI z 0=0:=by unfold cmpI;split <;> (try split) <;> omega
  unfold cmpI at this;rw [decide_eq_false this,decide_eq_false h]
theorem zQD {w:World} {v:Value} {z:Int} {k:Nat} (h:Zi w v z k):Calls Tryz.prog 77 #[v] w (zbI w z):=by
 obtain ⟨n,xs,a,c,rfl,s0,z0,k0⟩:=id h;obtain ⟨V1,hV⟩:∃V1,w.alloc (duo (.bool n) (.slice a xs.length c))=V1:=⟨_,rfl⟩
 obtain ⟨b,sz1⟩:=alo1 w (duo (.bool n) (.slice a xs.length c));rw [hV] at b sz1;have PN:Hid (Duo V1 w.heap.size (.bool n) (.slice a xs.length c)):=by unfold Hid;rw [←hV];exact Duo.new w _ _
 have HS:=hid (zoA (h.now b));have B1:=hid b;have EV:=hid hV;have n0:=PN.out.c0;have n1:=PN.out.c1;rw [←hV] at n0 n1;clear h s0 z0 k0 b sz1 hV PN;go_enter Tryz.func77,Tryz.ntmps77;go_wp2_with fail;rw [EV.out];refine HS.out.mono ?_;rintro e w1 ⟨rfl,b⟩;have FF:Hid (zbI w z (.returned (.bool (decide (cmpI z 0=0)))) w1):=by
  unfold Hid;rw [cmpI_zero18];exact ⟨rfl,below_step B1.out b⟩
 clear HS EV B1 b n0 n1;go_wp2;go_ret;exact FF.out
def zdH (w:World) (gr n:Nat) (R F:Nat→Int) (kw gk:Nat) (s:Value) (wx:World):Prop:=∃j:Nat,s=.int .i64 (j:Int)∧j≤n∧gk=n-j∧Rw17 wx gr n (mx18 R F j) kw∧Touch (· = gr) w wx
theorem takeOff18 {n kw l gr gl lt ct:Nat} {w:World} {nt:Bool} {at0:Option Addr} {s:Int} {L R:Nat→Int}
  (hR:Rw17 w gr n R kw) (hL:Rw17 w gl n L kw) (hne:gr≠gl) (ht:Zm 0 w (.agg #[.bool nt,.slice at0 lt ct]) s l)
  (hF:∀j,j<n→((R j-s*L j).natAbs:Int)<pw kw) (hn:n≤64) (hK:l+kw<35184372088000) :
  Calls Tryz.prog 57 #[.slice (some ⟨gr,0,none⟩) n n,.slice (some ⟨gl,0,none⟩) n n,.agg #[.bool nt,.slice at0 lt ct]] w (zVG w gr n (fun j=>R j-s*L j) kw):=by
 obtain ⟨F,hFe⟩:∃F:Nat→Int,F=fun j=>R j-s*L j:=⟨_,rfl⟩
 have hFj:∀j,F j=R j-s*L j:=fun j=>by rw [hFe]
 rw [←hFe];obtain ⟨V0,hV0⟩:∃V0,w.alloc (duo (.bool nt) (.slice at0 lt ct))=V0:=⟨_,rfl⟩
 obtain ⟨b0,sz0⟩:=alo1 w (duo (.bool nt) (.slice at0 lt ct));rw [hV0] at b0 sz0;have hgw:=hR.blk;have dT:Duo V0 w.heap.size (.bool nt) (.slice at0 lt ct):=by rw [←hV0];exact Duo.new w _ _
 have KS:Hid (∀wx,Touch (· = gr) V0 wx→Rw17 wx gl n L kw∧Zm 0 wx (.agg #[.bool nt,.slice at0 lt ct]) s l∧Duo wx w.heap.size (.bool nt) (.slice at0 lt ct)):=fun wx htw=>by
  have ty:=zqC (hR.now b0) htw;obtain ⟨ps,p1,p2⟩:=hR.now b0;exact ⟨(hL.now b0).touch htw p1 (fun e=>hne e.symm),(ht.now b0).ty ty (by decide),(htw.block _ dT.blk (by omega)).trans dT⟩
 have H0:Hid (zdH V0 gr n R F kw n (.int .i64 ((0:Nat):Int)) V0):=⟨0,rfl,Nat.zero_le _,rfl,(hR.now b0).congr fun j hj=>by unfold mx18;rw [if_neg (by omega)],Touch.refl _ _⟩
 have HF:=hid hF;have HFJ:=hid hFj;have HKK:=hid hK;have FIN:Hid (∀wx,Rw17 wx gr n (mx18 R F n) kw→Touch (· = gr) V0 wx→zVG w gr n F kw (.returned (.tuple #[])) wx):=fun wx h1 h2=>⟨rfl,h1.congr fun j hj=>if_pos hj,(Touch.ofBelow b0).trans h2⟩
 have EV0:=hid hV0;obtain ⟨bx,hbx⟩:∃bx,w.heap.size=bx:=⟨_,rfl⟩
 rw [hbx] at KS;have EBX:=hid hbx;clear hR hL hne ht hF hFe hFj hK b0 sz0 hV0 dT hgw hbx;go_enter Tryz.func57,Tryz.ntmps57;go_wp2_with fail;rw [EV0.out,EBX.out]
 go_loopg [10] n (fun gk s8 wx=>zdH V0 gr n R F kw gk s8 wx)
 case atStart=>exact H0.out
 case round =>
  clear H0;obtain ⟨j,rfl,hjn,hgk,hrw,htw⟩:=hrel;have RW:=hid hrw;have TW:=hid htw;have HG:=hid hgk;clear hrw htw hgk
  by_cases hlt:j<n
  ·have hlt':(j:Int)<(n:Int):=by omega
   obtain ⟨k3,k4,k5⟩:=KS.out _ TW.out;obtain ⟨nn,an,ln,cn,q0,q1,-,-,zn⟩:=k3.at hlt;obtain ⟨V1,hV⟩:∃V1,wr.alloc (duo (.bool nn) (.slice an ln cn))=V1:=⟨_,rfl⟩
   obtain ⟨b,sz1⟩:=alo1 wr (duo (.bool nn) (.slice an ln cn));rw [hV] at b sz1;have PN:Hid (Duo V1 wr.heap.size (.bool nn) (.slice an ln cn)):=by unfold Hid;rw [←hV];exact Duo.new wr _ _
   have RW1:=hid (RW.out.now b);have ZN:=hid (zn.now b);have ZT:=hid (k4.now b);have DT:=hid (k5.step b);have TV1:Hid (Touch (· = gr) V0 V1):=TW.out.trans (.ofBelow b);have HMM:Hid (n-(j+1)<gk):=by unfold Hid;rw [HG.out];omega
   have hwj:=zYA (i:=j) (by omega);have EV:=hid hV;have HSG:=hid (zQD ZN.out.zi);have n0:=PN.out.c0;have n1:=PN.out.c1;rw [←hV] at n0 n1;obtain ⟨bn,hbn⟩:∃bn,wr.heap.size=bn:=⟨_,rfl⟩
   rw [hbn] at PN n0 n1;have EBN:=hid hbn;clear k3 k4 k5 zn b sz1 hV HG hbn TW RW;go_wp2_with fail;rw [EV.out,EBN.out];refine HSG.out.mono ?_;rintro e w2 ⟨rfl,b⟩;replace PN:=hid (PN.out.step b);replace RW1:=hid (RW1.out.now b);replace ZN:=hid (ZN.out.now b);replace ZT:=hid (ZT.out.now b);replace DT:=hid (DT.out.step b);replace TV1:Hid (Touch (· = gr) V0 w2):=TV1.out.trans (.ofBelow b);clear HSG EV EBN b n0 n1 q0 q1
   by_cases hz:L j=0
   ·have HN1:Hid (zdH V0 gr n R F kw (n-(j+1)) (.int .i64 ((j+1:Nat):Int)) w2):=⟨j+1,rfl,by omega,rfl,RW1.out.congr fun t ht=>zjE ht (by rw [HFJ.out,hz];omega),TV1.out⟩
    have hs0:decide (L j=0)=true:=by rw [hz];rfl
    rw [hs0];clear PN RW1 ZN ZT DT TV1 hz hs0;go_wp2_with fail;go_roundg (n-(j+1))
    case rel=>exact HN1.out
    case measure=>exact HMM.out
   ·have hs0:decide (L j=0)=false:=decide_eq_false hz
    rw [hs0];obtain ⟨nx,ax,lx,cx,x0,x1,-,-,zx⟩:=RW1.out.at hlt;have ex:mx18 R F j j=R j:=if_neg (by omega);rw [ex] at zx;have ZX:=hid zx;have t0:=DT.out.c0;have t1:=DT.out.c1;have n0:=PN.out.c0;have n1:=PN.out.c1;clear hz zx ex hs0;go_wp2_with fail;have KB:Hid (∀w',Below w2.heap.size w2 w'→w'.cell? ⟨gr,j*2,none⟩=some (.bool nx)∧w'.cell? ⟨gr,j*2+1,none⟩=some (.slice ax lx cx)∧w'.cell? ⟨bx,0,none⟩=some (.bool nt)∧w'.cell? ⟨bx,1,none⟩=some (.slice at0 lt ct)∧w'.cell? ⟨bn,0,none⟩=some (.bool nn)∧w'.cell? ⟨bn,1,none⟩=some (.slice an ln cn)):=fun w' h=>⟨cnow h x0,cnow h x1,cnow h t0,cnow h t1,cnow h n0,cnow h n1⟩
    refine zFA (fun w'=>w'.cell? ⟨gr,j*2,none⟩=some (.bool nx)∧w'.cell? ⟨gr,j*2+1,none⟩=some (.slice ax lx cx)∧w'.cell? ⟨bx,0,none⟩=some (.bool nt)∧w'.cell? ⟨bx,1,none⟩=some (.slice at0 lt ct)∧w'.cell? ⟨bn,0,none⟩=some (.bool nn)∧w'.cell? ⟨bn,1,none⟩=some (.slice an ln cn)) 11 (by kernel_rfl) ?_;obtain ⟨D1,hD⟩:∃D1,w2.drew=D1:=⟨_,rfl⟩
    have GB:Hid (Below w2.heap.size w2 D1):=by unfold Hid;rw [←hD];exact (Below.refl _ _).drew
    rw [hD];clear hD;refine zIA [(0,(.slice (some ⟨gr,0,none⟩) n n)),(1,(.int .i64 (j:Int))),(2,(.slice (some ⟨gr,0,none⟩) n n)),(3,(.int .i64 (j:Int))),(4,(.pointer (some ⟨gr,j*2,none⟩))),(5,(.agg #[.bool nx,.slice ax lx cx])),(6,(.agg #[.bool nt,.slice at0 lt ct])),(7,(.agg #[.bool nn,.slice an ln cn]))] 8 ?_ (KB.out _ GB.out) ?_
    ·simp only [zVA,gA9,g09,g19,Act.put,sI9,s09,s19]
     (repeat' (first | exact trivial | refine And.intro (Or.inl ⟨by rfl,?_⟩) ?_)) <;> (intro w hSw;(try dsimp only at hSw);go_simp)
    simp only [actV,gA9,g09,g19,Act.put,sI9,s09,s19];refine zAA (i:=8) (o:=⟨some 26,.call { callee:=.value (.func 79),args:=#[.tmp 24,.tmp 25],argTypes:=#[41,41] },41, "lines.go:49",#[⟨6,.data⟩,⟨7,.data⟩],none⟩) (by kernel_rfl) rfl (fun K hK=>?_);go_simp;go_at_call 79;refine (zkE (ZT.out.now GB.out).zi (ZN.out.now GB.out).zi (by have:=HKK.out;omega)).mono ?_;rintro e w2 ⟨r1,rfl,m1,b⟩;have lz2:=(show Below _ _ _ from b).size;replace GB:=hid (below_step GB.out b);have M1:=hid (m1.mono (Nat.zero_le _));clear m1;clear b;refine hK.out _ _ (fun _=>KB.out _ GB.out) ?_;clear hK;refine zAA (i:=9) (o:=⟨some 27,.call { callee:=.value (.func 78),args:=#[.tmp 23,.tmp 26],argTypes:=#[41,41] },41, "lines.go:49",#[⟨5,.data⟩,⟨8,.data⟩,⟨8,.chain⟩],none⟩) (by kernel_rfl) rfl (fun K hK=>?_);go_simp;go_at_call 78;refine (zSG (ZX.out.now GB.out).zi M1.out.zi (by have:=HKK.out;omega) (by have:=HKK.out;omega)).mono ?_;rintro e w3 ⟨r2,rfl,m1,b⟩;have lz3:=(show Below _ _ _ from b).size;replace GB:=hid (below_step GB.out b);have M2:=hid ((m1.mono (Nat.zero_le _)).fit (l:=kw) (HF.out j hlt));obtain ⟨nr,xr,ar,cr,rfl⟩:=m1.parts;have RW2:=hid (RW1.out.now GB.out);have TV2:Hid (Touch (· = gr) V0 w3):=TV1.out.trans (.ofBelow GB.out);clear m1 M1;clear b;refine hK.out _ _ (fun _=>KB.out _ GB.out) ?_;clear hK;refine zIA [(10,(.pointer (some ⟨gr,j*2,none⟩)))] 1 ?_ (KB.out _ GB.out) ?_
    ·simp only [zVA,gA9,g09,g19,Act.put,sI9,s09,s19]
     (repeat' (first | exact trivial | refine And.intro (Or.inl ⟨by rfl,?_⟩) ?_)) <;> (intro w hSw;(try dsimp only at hSw);go_simp)
    simp only [actV,gA9,g09,g19,Act.put,sI9,s09,s19];refine zAA (i:=11) (o:=⟨none,.store 41 (.tmp 28) (.tmp 27),0, "lines.go:49",#[⟨10,.data⟩,⟨9,.data⟩,⟨9,.chain⟩,⟨0,.phase⟩,⟨1,.phase⟩,⟨2,.phase⟩,⟨3,.phase⟩,⟨4,.phase⟩,⟨5,.phase⟩,⟨6,.phase⟩,⟨7,.phase⟩,⟨8,.phase⟩,⟨9,.phase⟩],none⟩) (by kernel_rfl) rfl (fun K hK=>?_);obtain ⟨_,_,_,_,e0,e1,e2,e3,-⟩:=RW2.out.at hlt;go_simp;clear e0 e1 e2 e3;obtain ⟨V4,hW⟩:∃V4,((w3.setCell ⟨gr,j*2,none⟩ (.bool nr)).setCell ⟨gr,j*2+1,none⟩ (.slice ar xr.length cr))=V4:=⟨_,rfl⟩
    have HN1:Hid (zdH V0 gr n R F kw (n-(j+1)) (.int .i64 ((j+1:Nat):Int)) V4):=by
     unfold Hid;rw [←hW];have hm:=M2.out;rw [←HFJ.out j] at hm;exact ⟨j+1,rfl,by omega,rfl,(RW2.out.put hlt hm).1.congr fun t ht=>zOD ht,zgB TV2.out _ _⟩
    rw [hW];clear hW;refine hK.out _ _ (fun h=>absurd h (by decide)) ?_;clear hK
    try simp only [Act.put]
    refine zDA (by kernel_rfl) ?_ _;clear GB KB M2 RW2 TV2 PN RW1 ZN ZT DT TV1 ZX t0 t1 n0 n1 x0 x1;go_wp2_with fail;go_roundg (n-(j+1))
    case rel=>exact HN1.out
    case measure=>exact HMM.out
  ·have hlt':¬(j:Int)<(n:Int):=by omega
   obtain rfl:j=n:=by omega
   have FF:=hid (FIN.out wr RW.out TW.out);clear RW TW HG FIN;go_wp2;go_end0;exact FF.out
end Go.Proofs.YtefpboopafdhpaaGreat
