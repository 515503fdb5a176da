import Derived.Test.YtjnokjgbeploaaaGreatQEachM11ToPr12
import Derived.Test.YtjnokjgbeploaaaGreatQBz13ToSt13
set_option maxRecDepth 100000
set_option maxHeartbeats 6400000
set_option linter.unusedVariables false
set_option linter.unusedSimpArgs false
namespace Go.Proofs.YtjnokjgbeploaaaGreat
open Go.RowKit Go.Shelf
def Ivs (B:Nat) (w:World) (v:Value) (l:List Nat):Prop:=w.ownsRow B 3 1 v l.length (l.map fun (a:Nat)=>Value.int .i64 (a:Int))
theorem Ivs.nil (B:Nat) (w:World):Ivs B w (.slice none 0 0) []:=World.ownsRow_nil _ _ _ _
theorem Ivs.now {B:Nat} {w w':World} {v:Value} {l:List Nat} (h:Ivs B w v l) (hb:Below w.heap.size w w'):Ivs B w' v l:=zyA h fun b _ hlt=>hb.block b hlt
theorem Ivs.form {B:Nat} {w:World} {v:Value} {l:List Nat} (h:Ivs B w v l):∃a cap,v=.slice a l.length cap∧l.length≤cap∧(0<l.length→∃g,a=some ⟨g,0,none⟩):=by
 obtain ⟨q1,⟨q2,q3⟩ | ⟨g,cap,cur,q2,q3,q4,q5,q6⟩⟩:=h
 ·exact ⟨none,0,by rw [q2,q3],by omega,fun q=>by omega⟩
 ·exact ⟨_,cap,q2,by omega,fun _=>⟨g,rfl⟩⟩
theorem Ivs.blk {B b:Nat} {w:World} {v:Value} {l:List Nat} (h:Ivs B w v l) (hb:v.ownBlock=some b):B≤b∧∃L,w.heap[b]?=some (.cells L 3 (0,0)):=by
 obtain ⟨_,⟨r2,_⟩ | ⟨g2,cap,cur,r2,r3,r4,r5⟩⟩:=h
 ·rw [r2] at hb;cases hb
 ·rw [r2] at hb
  simp only [Value.ownBlock,Option.some.injEq] at hb;subst hb;exact ⟨r3,cur,r4⟩
theorem Ivs.at {B g cap n:Nat} {w:World} {l:List Nat} (h:Ivs B w (.slice (some ⟨g,0,none⟩) n cap) l) {i:Nat} (hi:i<l.length):w.cell? ⟨g,i,none⟩=some (.int .i64 (l.getD i 0:Nat)):=by
 obtain ⟨q1,⟨q2,q3⟩ | ⟨g',cap',cur,q2,q3,q4,q5,q6⟩⟩:=h
 ·cases q2
 ·simp only [Value.slice.injEq,Option.some.injEq,Addr.mk.injEq,and_true] at q2
  obtain ⟨rfl,rfl,rfl⟩:=q2;have h1:w.ownsRow B 3 1 (.slice (some ⟨g,0,none⟩) l.length cap) l.length (l.map fun (a:Nat)=>Value.int .i64 (a:Int)):=⟨q1,.inr ⟨g,cap,cur,rfl,q3,q4,q5,q6⟩⟩
  rw [h1.cellAt i (by omega)];simp [hi]
theorem Ivs.keep {B:Nat} {w w':World} {v:Value} {l:List Nat} (h:Ivs B w v l) (hk:∀(b:Nat) (L:Array Value),v.ownBlock=some b→w.heap[b]?=some (.cells L 3 (0,0))→w'.heap[b]?=some (.cells L 3 (0,0))):Ivs B w' v l:=zyA h fun b hb hlt=>by
 obtain ⟨_,L,e⟩:=h.blk hb;rw [e];exact hk b L hb e
theorem Tryz.infoI13:(Tryz.prog.info? 3).map (fun i=>(i.zero,i.size,i.bytes))=some (some (.int .i64 0),1,8):=by kernel_rfl
theorem zDC (g j:Nat):(⟨g,0,none⟩:Addr).add j=⟨g,j,none⟩:=by unfold Addr.add;split <;> simp_all
theorem wpList_append_ivs (w:World) {ops:Array Oper} {rest:List Oper} {o:Oper} {a:Act} {Q:Exit→Act→World→Prop}
  (hgd:o.guard=none) (s x:Operand) (hop:o.op=.call { callee:=.builtin .append,args:=#[s,x],argTypes:=#[47,47] })
  (B:Nat) (v:Value) (l:List Nat) (t:Nat) (hs:a.eval s=v) (hP:Ivs B w v l) (gx:Nat) (hx:a.eval x=.slice (some ⟨gx,0,none⟩) 1 1) (hc:w.cell? ⟨gx,0,none⟩=some (.int .i64 (t:Int))) (hlen:l.length≤1000000) (hBs:B≤w.heap.size)
  (hK:∀g' cap' w',Hid (Ivs B w' (.slice (some ⟨g',0,none⟩) (l.length+1) cap') (l ++ [t]))→Hid (w.grownBy w' v.ownBlock)→Hid (v.ownBlock=some g'∨g'=w.heap.size)→wpList Tryz.prog ops Q rest (a.put o.dst (.slice (some ⟨g',0,none⟩) (l.length+1) cap')) w') :
  wpList Tryz.prog ops Q (o :: rest) a w:=by
 obtain ⟨i,hi,hz,hsz,hby⟩:=info_parts Tryz.infoI13;refine wpList_append_lies w hgd s x 47 hop B 3 i (.int .i64 0) 1 8 Tryz.underlying47 hi hz hsz hby rfl (by omega) v l.length _ hs hP ⟨gx,0,none⟩ 1 1 [.int .i64 (t:Int)] hx rfl ?_ ?_ (by omega) (by unfold maxLen;omega) (by omega) hBs w.heap.size rfl ?_
 ·intro j u' hj
  match j,hj with
  | 0,hj=>simp at hj;subst hj;rw [zDC];exact hc
 ·intro u' hu'
  simp at hu';subst hu'
  rfl
 ·intro g' cap' w' k1 k2 k3 k4
  refine hK _ _ w' ?_ k2 k3;unfold Hid Ivs;rw [List.length_append,List.length_cons,List.length_nil,List.map_append];exact k1
def lnz (A:Nat→Nat→Int) (n:Nat) (rs cs:List Nat):List (List Int):=(List.range rs.length).map fun k=>(List.range n).map fun j=>mi A (gd rs) (gd cs) k (gd rs k) j
theorem zEB (A:Nat→Nat→Int) (n:Nat) (rs cs:List Nat):(lnz A n rs cs).length=rs.length:=by simp [lnz]
theorem zUI {A:Nat→Nat→Int} {n:Nat} {rs cs:List Nat} {k:Nat} (hk:k<rs.length):zLB (lnz A n rs cs) k=(List.range n).map fun j=>mi A (gd rs) (gd cs) k (gd rs k) j:=by
 simp [zLB,lnz,hk]
theorem lnz_app {A:Nat→Nat→Int} {n:Nat} {rs cs:List Nat} (hl:cs.length=rs.length) (r c:Nat):lnz A n (rs ++ [r]) (cs ++ [c])=lnz A n rs cs ++ [(List.range n).map fun j=>mi A (gd rs) (gd cs) rs.length r j]:=by
 unfold lnz;rw [List.length_append,List.length_singleton,List.range_succ,List.map_append,List.map_singleton];have oR:∀k,k≤rs.length→∀a,a<k→gd (rs ++ [r]) a=gd rs a:=fun k hk a ha=>zED (by omega)
 have oC:∀k,k≤rs.length→∀a,a<k→gd (cs ++ [c]) a=gd cs a:=fun k hk a ha=>zED (by omega)
 congr 1
 ·refine List.map_congr_left fun k hk=>?_
  have hk':k<rs.length:=by simpa using hk
  refine List.map_congr_left fun j _=>?_
  rw [zED hk',zBC (oR k (by omega)) (oC k (by omega))]
 ·congr 1
  refine List.map_congr_left fun j _=>?_
  rw [zVH,zBC (oR _ (Nat.le_refl _)) (oC _ (Nat.le_refl _))]
theorem zLA.ty13 {g:Nat} {w w':World} {ps:List (Value×Value)} (ht:zLA (· = g) w w') (hA:Arr w g ps):Ty 39 w w':=by
 refine ⟨ht.size,fun b L T fr e hne=>?_⟩;refine (ht.block b (Array.getElem?_eq_some_iff.1 e).1 fun q=>?_).trans e;have q':b=g:=q;subst q';have:=e.symm.trans (show w.heap[_]?=_ from hA.1);simp only [Option.some.injEq,Obj.cells.injEq] at this;exact hne this.2.1
theorem Arr.touch {g g':Nat} {w w':World} {ps:List (Value×Value)} (h:Arr w g' ps) (ht:zLA (· = g) w w') (hne:g'≠g):Arr w' g' ps:=⟨(ht.block g' h.1.blk hne).trans h.1,h.2⟩
theorem Ivs.touch {B g:Nat} {w w':World} {v:Value} {l:List Nat} {ps:List (Value×Value)} (h:Ivs B w v l) (ht:zLA (· = g) w w') (hA:Arr w g ps):Ivs B w' v l:=h.keep fun b L _ e=>(ht.ty13 hA).2 b _ _ _ e (by decide)
theorem Cel.ty13 {T T':TypeId} {w w':World} {b:Nat} {L:List Value} (h:Cel w b T L) (ht:Ty T' w w') (hT:T≠T'):Cel w' b T L:=ht.2 b _ _ _ h hT
theorem ShtM.blk {B c k b:Nat} {w:World} {lv:Value} {gs:List Nat} {m:List (List Int)} (h:ShtM B w lv c gs m k) (hb:lv.ownBlock=some b):B≤b∧∃L,w.heap[b]?=some (.cells L 22 (0,0)):=by
 obtain ⟨⟨_,⟨r2,_⟩ | ⟨g2,cap,cur,r2,r3,r4,r5⟩⟩,_⟩:=h
 ·rw [r2] at hb;cases hb
 ·rw [r2] at hb
  simp only [Value.ownBlock,Option.some.injEq] at hb;subst hb;exact ⟨r3,cur,r4⟩
theorem ShtM.touch {B c k g:Nat} {w w':World} {lv:Value} {gs:List Nat} {m:List (List Int)} {ps:List (Value×Value)} (h:ShtM B w lv c gs m k) (ht:zLA (· = g) w w') (hA:Arr w g ps) (hg:∀x∈gs,x≠g):ShtM B w' lv c gs m k:=by
 have h0:=h;obtain ⟨h1,h2,h3,h4,h5,h6⟩:=h;refine ⟨zyA h1 fun b hb hlt=>?_,h2,h3,h4,h5,fun j g' hg'=>?_⟩
 ·obtain ⟨_,L,e⟩:=h0.blk hb
  rw [e];exact (ht.ty13 hA).2 b _ _ _ e (by decide)
 ·obtain ⟨qs,q1,q2⟩:=h6 j g' hg'
  exact ⟨qs,q1.touch ht (hg g' (List.mem_of_getElem? hg')),q2.ty (ht.ty13 hA) (by decide)⟩
theorem ShtM.ints {B c k:Nat} {w w':World} {lv:Value} {gs:List Nat} {m:List (List Int)} (h:ShtM B w lv c gs m k) (ht:Ty 3 w w'):ShtM B w' lv c gs m k:=by
 have h0:=h;obtain ⟨h1,h2,h3,h4,h5,h6⟩:=h;refine ⟨zyA h1 fun b hb hlt=>?_,h2,h3,h4,h5,fun j g' hg'=>?_⟩
 ·obtain ⟨_,L,e⟩:=h0.blk hb
  rw [e];exact ht.2 b _ _ _ e (by decide)
 ·obtain ⟨qs,q1,q2⟩:=h6 j g' hg'
  exact ⟨qs,⟨q1.1.ty13 ht (by decide),q1.2⟩,q2.ty ht (by decide)⟩
def Srs (A:Nat→Nat→Int) (B:Nat) (w:World) (Bs n:Nat) (rs cs:List Nat) (odd:Bool) (ks:List Nat) (k:Nat):Prop :=
 ∃rv cv lv,Cel w Bs 50 [rv,cv,lv,.bool odd]∧Ivs B w rv rs∧Ivs B w cv cs∧ShtM B w lv n ks (lnz A n rs cs) k∧(∀b,rv.ownBlock=some b→cv.ownBlock≠some b)
theorem Srs.now {A:Nat→Nat→Int} {B Bs n k:Nat} {w w':World} {rs cs ks:List Nat} {odd:Bool} (h:Srs A B w Bs n rs cs odd ks k) (hb:Below w.heap.size w w'):Srs A B w' Bs n rs cs odd ks k:=by
 obtain ⟨rv,cv,lv,h1,h2,h3,h4,h5⟩:=h;exact ⟨rv,cv,lv,h1.step hb,h2.now hb,h3.now hb,h4.kc (zfB hb),h5⟩
theorem Srs.kc {A:Nat→Nat→Int} {B Bs n k:Nat} {w w':World} {rs cs ks:List Nat} {odd:Bool} (h:Srs A B w Bs n rs cs odd ks k) (hk:Kc w w'):Srs A B w' Bs n rs cs odd ks k:=by
 obtain ⟨rv,cv,lv,h1,h2,h3,h4,h5⟩:=h;exact ⟨rv,cv,lv,hk.cel h1,h2.keep fun b L _ e=>hk.2 b _ e rfl,h3.keep fun b L _ e=>hk.2 b _ e rfl,h4.kc hk,h5⟩
theorem ShtM.at {B c k:Nat} {w:World} {lv:Value} {gs:List Nat} {m:List (List Int)} (h:ShtM B w lv c gs m k) {i g t:Nat} (hg:gs[i]?=some g) (ht:t<c) :
  ∃nv av lw cv,w.cell? ⟨g,t*2,none⟩=some (.bool nv)∧w.cell? ⟨g,t*2+1,none⟩=some (.slice av lw cv)∧Zm 0 w (.agg #[.bool nv,.slice av lw cv]) ((zLB m i).getD t 0) k:=by
 obtain ⟨h1,h2,h3,h4,h5,h6⟩:=h;have hi:i<gs.length:=(List.getElem?_eq_some_iff.1 hg).1;obtain ⟨ps,p1,p2⟩:=h6 i g hg;have hl:(zLB m i).length=c:=h5.at (by omega);have hp:ps[t]?=some (ps[t]'(by rw [p2.1];omega)):=List.getElem?_eq_getElem _;obtain ⟨n0,a0,l0,c0,e⟩:=p1.2 _ (List.getElem_mem (l:=ps) (n:=t) (by rw [p2.1];omega));have hz:(zLB m i)[t]?=some ((zLB m i).getD t 0):=by simp [show t<(zLB m i).length by omega]
 have q:=p1.at hp;have z:=p2.2 t _ _ hp hz;rw [e] at q z;exact ⟨n0,a0,l0,c0,q.1,q.2,z⟩
theorem Zms.at {w:World} {g t k:Nat} {ps:List (Value×Value)} {zs:List Int} (h:Zms w ps zs k) (hA:Arr w g ps) (ht:t<zs.length) :
  ∃nv av lw cv,w.cell? ⟨g,t*2,none⟩=some (.bool nv)∧w.cell? ⟨g,t*2+1,none⟩=some (.slice av lw cv)∧w.frozen? ⟨g,t*2,none⟩=false∧w.frozen? ⟨g,t*2+1,none⟩=false∧Zm 0 w (.agg #[.bool nv,.slice av lw cv]) (zs.getD t 0) k:=by
 have hp:ps[t]?=some (ps[t]'(by rw [h.1];exact ht)):=List.getElem?_eq_getElem _;obtain ⟨n0,a0,l0,c0,e⟩:=hA.2 _ (List.getElem_mem (l:=ps) (n:=t) (by rw [h.1];exact ht));have hz:zs[t]?=some (zs.getD t 0):=by simp [ht]
 have q:=hA.at hp;have z:=h.2 t _ _ hp hz;rw [e] at q z;exact ⟨n0,a0,l0,c0,q.1,q.2,hA.1.fz _,hA.1.fz _,z⟩
theorem Zms.put {w:World} {g t k:Nat} {ps:List (Value×Value)} {zs:List Int} (h:Zms w ps zs k) (hA:Arr w g ps) (ht:t<zs.length) {x y:Value} {z:Int} (hz:Zm 0 w (.agg #[x,y]) z k) :
  Arr (putp w g t x y) g (ps.set t (x,y))∧Zms (putp w g t x y) (ps.set t (x,y)) (zs.set t z) k∧Ty 39 w (putp w g t x y):=by
 have hT:Ty 39 w (putp w g t x y):=(Ty.set hA.1).trans (Ty.set (hA.1.set _ _));refine ⟨hA.put (by rw [h.1];exact ht) hz.zi.isI,⟨by simp [h.1],fun j p z' hp hzz=>?_⟩,hT⟩
 by_cases r:j=t
 ·subst r
  rw [List.getElem?_set_self (by rw [h.1];exact ht),Option.some.injEq] at hp;rw [List.getElem?_set_self ht,Option.some.injEq] at hzz;subst hp hzz;exact hz.ty hT (by decide)
 ·rw [List.getElem?_set_ne (by omega)] at hp hzz
  exact (h.2 j p z' hp hzz).ty hT (by decide)
theorem Zms.more {w:World} {ps:List (Value×Value)} {zs:List Int} {k l:Nat} (h:Zms w ps zs k) (hl:k≤l):Zms w ps zs l:=⟨h.1,fun j p z hp hz=>(h.2 j p z hp hz).more hl⟩
theorem ShtM.form {B c k:Nat} {w:World} {lv:Value} {gs:List Nat} {m:List (List Int)} (h:ShtM B w lv c gs m k):∃a cap,lv=.slice a m.length cap∧m.length≤cap∧(0<m.length→∃L,a=some ⟨L,0,none⟩∧B≤L∧L<w.heap.size):=h.sht.form
theorem ShtM.line {B c k L cap n:Nat} {w:World} {gs:List Nat} {m:List (List Int)} (h:ShtM B w (.slice (some ⟨L,0,none⟩) n cap) c gs m k) {i g:Nat} (hg:gs[i]?=some g):w.cell? ⟨L,i,none⟩=some (.slice (some ⟨g,0,none⟩) c c):=by
 have h0:=h;obtain ⟨a,cap',e,_,_⟩:=h.form;simp only [Value.slice.injEq] at e;obtain ⟨-,rfl,-⟩:=e;exact (h0.sht.line hg).1
end Go.Proofs.YtjnokjgbeploaaaGreat
