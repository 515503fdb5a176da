/-
 QIx13ToCl13: Ix13, Cl13, joined.
-/
import Derived.Test.YtjnokjgbeploaaaGreatQSr13
import Derived.Test.YtjnokjgbeploaaaGreatQZOnesToZCmp
import Derived.Test.YtjnokjgbeploaaaGreatQEl13

set_option maxRecDepth 100000
set_option maxHeartbeats 6400000
set_option linter.unusedVariables false
set_option linter.unusedSimpArgs false
namespace Go.Proofs.YtjnokjgbeploaaaGreat
open Go.RowKit
abbrev fnNz13:Value:=.func (.func 50) #[] #[]
theorem cmpI_ne {z:Int} (h:z≠0):(cmpI z 0 != 0)=true:=by
 rcases Int.lt_or_gt_of_ne h with q | q
 ·rw [ziB q];rfl
 ·rw [zTB q];rfl
theorem nz13 {w:World} {v:Value} {z:Int} {k:Nat} (h:Zi w v z k):Calls Tryz.prog 50 #[v] w fun e w'=>e=.returned (.bool (z != 0))∧Below w.heap.size w w':=by
 have z0:=h;obtain ⟨n,xs,a,c,rfl,-,-,-⟩:=h;obtain ⟨W0,hW⟩:∃W0,w.alloc (duo (.bool n) (.slice a xs.length c))=W0:=⟨_,rfl⟩
 obtain ⟨b0,sz0⟩:=alo1 w (duo (.bool n) (.slice a xs.length c));rw [hW] at b0 sz0;have HS:=hid (zoB (z0.now b0));have G:=hid b0;have EW:=hid hW;have EB:(cmpI z 0 != 0)=(z != 0):=by
  by_cases q:z=0
  ·subst q;rw [cmpI_self]
  ·rw [cmpI_ne q];simp [q]
 have HEB:=hid EB;clear z0 b0 hW sz0 EB;go_enter Tryz.func50,Tryz.ntmps50;go_wp2_with fail;rw [EW.out];refine HS.out.mono ?_;rintro e w1 ⟨rfl,b⟩;have G1:=hid (zBA G.out b);clear b HS;generalize cmpI z 0=cz at *;go_wp2;go_ret;refine ⟨?_,G1.out⟩;rw [←HEB.out]
 rfl
def FstN (n:Nat) (zs:List Int) (r:Int):Prop:=(r = -1∧∀j,j<n→zs.getD j 0=0)∨∃c:Nat,r=(c:Int)∧c<n∧(∀j,j<c→zs.getD j 0=0)∧zs.getD c 0≠0
def zpI (w:World) (n:Nat) (zs:List Int) (e:Ending) (w':World):Prop:=∃r:Int,e=.returned (.int .i64 r)∧FstN n zs r∧Below w.heap.size w w'
def zoI (w:World) (g n:Nat) (ps:List (Value×Value)) (zs:List Int) (k gk:Nat) (s:Value) (wx:World):Prop :=
 ∃i:Nat,s=.int .i64 (i:Int)∧i≤n∧gk=n-i∧(∀j,j<i→zs.getD j 0=0)∧Arr wx g ps∧Zms wx ps zs k∧Below w.heap.size w wx
theorem index13 {w:World} {g n k:Nat} {ps:List (Value×Value)} {zs:List Int} (hA:Arr w g ps) (hz:Zms w ps zs k) (hl:zs.length=n) (hn:n≤64) :
  Calls Tryz.prog 49 #[.slice (some ⟨g,0,none⟩) n n,fnNz13] w (zpI w n zs):=by
 have H0:Hid (zoI w g n ps zs k n (.int .i64 0) w):=⟨0,rfl,Nat.zero_le _,rfl,fun j hj=>by omega,hA,hz,Below.refl _ _⟩
 have HL:=hid hl;clear hA hz hl;go_enter Tryz.func49,Tryz.ntmps49;go_wp2_with fail
 go_loopg [8] n (fun gk s8 wx=>zoI w g n ps zs k gk s8 wx)
 case atStart=>exact H0.out
 case round =>
  clear H0;obtain ⟨i,rfl,hin,hg,hpos,ar,zr,hG⟩:=hrel;have AR:=hid ar;have ZR:=hid zr;have G:=hid hG;have HG:=hid hg;have HP:=hid hpos;clear ar zr hG hg hpos
  by_cases hlt:i<n
  ·have hlt':(i:Int)<(n:Int):=by omega
   obtain ⟨nf,af,lf,cf,k0,k1,-,-,zf⟩:=ZR.out.at AR.out (t:=i) (by rw [HL.out];exact hlt);have HS:=hid (nz13 zf.zi);have hw:=zNA (i:=i) (by omega);clear zf
   by_cases hp:zs.getD i 0=0
   ·have e0:(zs.getD i 0 != 0)=false:=by rw [hp];rfl
    rw [e0] at HS;have HPP:=hid hp;clear hp e0;go_wp2_with fail;refine HS.out.mono ?_;rintro e w1 ⟨rfl,b⟩;have HN1:Hid (zoI w g n ps zs k (n-(i+1)) (.int .i64 ((i+1:Nat):Int)) w1):=⟨i+1,rfl,by omega,rfl,fun j hj=>by
     by_cases q:j<i
     ·exact HP.out j q
     ·obtain rfl:j=i:=by omega
      exact HPP.out,AR.out.step b,ZR.out.now b,zBA G.out b⟩
    have HMM:Hid (n-(i+1)<gk):=by unfold Hid;rw [HG.out];omega
    clear HS HPP AR ZR G HG HP k0 k1 b;go_wp2_with fail;go_roundg (n-(i+1))
    case rel=>exact HN1.out
    case measure=>exact HMM.out
   ·have e0:(zs.getD i 0 != 0)=true:=by simp only [bne_iff_ne];exact hp
    rw [e0] at HS;have HPP:=hid hp;clear hp e0;go_wp2_with fail;refine HS.out.mono ?_;rintro e w1 ⟨rfl,b⟩;have FIN:Hid (zpI w n zs (.returned (.int .i64 (i:Int))) w1):=⟨(i:Int),rfl,.inr ⟨i,rfl,hlt,HP.out,HPP.out⟩,zBA G.out b⟩
    clear HS HPP AR ZR G HG HP k0 k1 b;go_wp2;go_ret;exact FIN.out
  ·have hlt':¬(i:Int)<(n:Int):=by omega
   have FIN:Hid (zpI w n zs (.returned (.int .i64 (-1))) wr):=⟨-1,rfl,.inl ⟨rfl,fun j hj=>HP.out j (by omega)⟩,G.out⟩
   clear AR ZR G HG HP;go_wp2;go_ret;exact FIN.out
open Go.RowKit Go.Shelf
def Kq (B Bs g:Nat) (w w':World):Prop:=zLA (fun b=>b=Bs∨B≤b) w w'∧(∀(j:Nat) (o:Obj),w.heap[j]?=some o→o.isCells=false→w'.heap[j]?=some o)∧∀(b:Nat) (L:Array Value) (T:TypeId) (fr:Nat×Nat),w.heap[b]?=some (.cells L T fr)→T≠3→T≠22→T≠50→b≠g→w'.heap[b]?=some (.cells L T fr)
theorem Kq.refl (B Bs g:Nat) (w:World):Kq B Bs g w w:=⟨zLA.refl _ _,fun _ _ h _=>h,fun _ _ _ _ h _ _ _ _=>h⟩
theorem Kq.trans {B Bs g:Nat} {a b c:World} (h:Kq B Bs g a b) (h':Kq B Bs g b c):Kq B Bs g a c:=⟨h.1.trans h'.1,fun j o e q=>h'.2.1 j o (h.2.1 j o e q) q,fun b L T fr e q1 q2 q3 q4=>h'.2.2 b L T fr (h.2.2 b L T fr e q1 q2 q3 q4) q1 q2 q3 q4⟩
theorem Kq.of {B Bs g:Nat} {w w':World} (h:Below w.heap.size w w'):Kq B Bs g w w':=⟨.ofBelow h,fun j o e _=>(h.block j (Array.getElem?_eq_some_iff.1 e).1).trans e,fun b L T fr e _ _ _ _=>(h.block b (Array.getElem?_eq_some_iff.1 e).1).trans e⟩
theorem Kq.box {B Bs g i:Nat} {w:World} {L:List Value} {u:Value} (d:Cel w Bs 50 L):Kq B Bs g w (w.setCell ⟨Bs,i,none⟩ u):=by
 refine ⟨(zLA.refl _ _).setCell (.inr (.inl rfl)) _ _,fun j o e q=>?_,fun b L T fr e _ _ q _=>(Ty.set d).2 b L T fr e q⟩;refine (Below.heap_setCell w _ u j (fun r=>?_)).trans e;have r':j=Bs:=by simpa using r
 subst r';have:=e.symm.trans (show w.heap[j]?=_ from d);rw [Option.some.injEq] at this;subst this;cases q
theorem Kq.touch {B Bs g:Nat} {w w':World} {ps:List (Value×Value)} (ht:zLA (· = g) w w') (hA:Arr w g ps) (hB:B≤g):Kq B Bs g w w':=by
 refine ⟨⟨ht.os,ht.tape,ht.output,ht.size,fun k hk hS=>ht.block k hk (fun e=>hS (.inr (by have e':k=g:=e;omega)))⟩,fun j o e q=>?_,fun b L T fr e _ _ _ q=>(ht.block b (Array.getElem?_eq_some_iff.1 e).1 q).trans e⟩;refine (ht.block j (Array.getElem?_eq_some_iff.1 e).1 fun r=>?_).trans e;have r':j=g:=r;subst r';have:=e.symm.trans (show w.heap[j]?=_ from hA.1);rw [Option.some.injEq] at this;subst this;cases q
theorem Kq.grown {B Bs g:Nat} {w w':World} {v:Value} {T:TypeId} (hT:T=3∨T=22) (hg:w.grownBy w' v.ownBlock) (ho:∀b,v.ownBlock=some b→B≤b∧∃L,w.heap[b]?=some (.cells L T (0,0))):Kq B Bs g w w':=by
 refine ⟨(zLA.refl _ _).grown hg (fun k e=>.inr (.inr (ho k e).1)),fun j o e q=>?_,fun b L T' fr e q1 q2 _ _=>?_⟩
 ·refine (hg.block j (Array.getElem?_eq_some_iff.1 e).1 fun r=>?_).trans e
  obtain ⟨_,L,e'⟩:=ho j r.symm;rw [e,Option.some.injEq] at e';subst e';cases q
 ·refine (hg.block b (Array.getElem?_eq_some_iff.1 e).1 fun r=>?_).trans e
  obtain ⟨_,L',e'⟩:=ho b r.symm;have:=e.symm.trans e';simp only [Option.some.injEq,Obj.cells.injEq] at this;rcases hT with h | h
  ·exact q1 (this.2.1.trans h)
  ·exact q2 (this.2.1.trans h)
structure SrX (B:Nat) (w:World) (Bs n:Nat) (rv cv lv:Value) (rs cs:List Nat) (odd:Bool) (ks:List Nat) (m:List (List Int)) (k:Nat):Prop where
 box:Cel w Bs 50 [rv,cv,lv,.bool odd]
 rows:Ivs B w rv rs
 cols:Ivs B w cv cs
 lines:ShtM B w lv n ks m k
 part:∀b,rv.ownBlock=some b→cv.ownBlock≠some b
theorem SrX.now {B Bs n k:Nat} {w w':World} {rv cv lv:Value} {rs cs ks:List Nat} {odd:Bool} {m:List (List Int)} (h:SrX B w Bs n rv cv lv rs cs odd ks m k) (hb:Below w.heap.size w w'):SrX B w' Bs n rv cv lv rs cs odd ks m k :=
 ⟨h.box.step hb,h.rows.now hb,h.cols.now hb,h.lines.kc (zfB hb),h.part⟩
theorem SrX.touch {B Bs n k g:Nat} {w w':World} {rv cv lv:Value} {rs cs ks:List Nat} {odd:Bool} {m:List (List Int)} {ps:List (Value×Value)} (h:SrX B w Bs n rv cv lv rs cs odd ks m k) (ht:zLA (· = g) w w') (hA:Arr w g ps) (hg:∀x∈ks,x≠g):SrX B w' Bs n rv cv lv rs cs odd ks m k :=
 ⟨h.box.ty13 (ht.ty13 hA) (by decide),h.rows.touch ht hA,h.cols.touch ht hA,h.lines.touch ht hA hg,h.part⟩
theorem Ivs.ty {T:TypeId} {B:Nat} {w w':World} {v:Value} {l:List Nat} (h:Ivs B w v l) (ht:Ty T w w') (hT:3≠T):Ivs B w' v l:=h.keep fun b L _ e=>ht.2 b _ _ _ e hT
theorem ShtM.ty {T:TypeId} {B c k:Nat} {w w':World} {lv:Value} {gs:List Nat} {m:List (List Int)} (h:ShtM B w lv c gs m k) (ht:Ty T w w') (h1:22≠T) (h2:39≠T) (h3:58≠T):ShtM B w' lv c gs m k:=by
 have h0:=h;obtain ⟨q1,q2,q3,q4,q5,q6⟩:=h;refine ⟨zyA q1 fun b hb hlt=>?_,q2,q3,q4,q5,fun j g' hg'=>?_⟩
 ·obtain ⟨_,L,e⟩:=h0.blk hb
  rw [e];exact ht.2 b _ _ _ e h1
 ·obtain ⟨qs,p1,p2⟩:=q6 j g' hg'
  exact ⟨qs,⟨p1.1.ty13 ht h2,p1.2⟩,p2.ty ht h3⟩
theorem Arr.ty13 {T:TypeId} {w w':World} {g:Nat} {ps:List (Value×Value)} (h:Arr w g ps) (ht:Ty T w w') (hT:39≠T):Arr w' g ps:=⟨h.1.ty13 ht hT,h.2⟩
theorem SrX.put {B Bs n k i:Nat} {w:World} {rv cv lv u:Value} {rs cs ks:List Nat} {odd:Bool} {m:List (List Int)} (h:SrX B w Bs n rv cv lv rs cs odd ks m k):Ty 50 w (w.setCell ⟨Bs,i,none⟩ u):=Ty.set h.box
theorem SrX.flip {B Bs n k:Nat} {w:World} {rv cv lv:Value} {rs cs ks:List Nat} {odd:Bool} {m:List (List Int)} (h:SrX B w Bs n rv cv lv rs cs odd ks m k) (o:Bool):SrX B (w.setCell ⟨Bs,3,none⟩ (.bool o)) Bs n rv cv lv rs cs o ks m k :=
 ⟨h.box.set 3 _,h.rows.ty h.put (by decide),h.cols.ty h.put (by decide),h.lines.ty h.put (by decide) (by decide) (by decide),h.part⟩
theorem SrX.addR {B Bs n k g g' l' cap':Nat} {w w':World} {rv cv lv:Value} {rs cs ks:List Nat} {odd:Bool} {m:List (List Int)} {r:Nat} (h:SrX B w Bs n rv cv lv rs cs odd ks m k) (hI:Ivs B w' (.slice (some ⟨g',0,none⟩) l' cap') (rs ++ [r])) (hg:w.grownBy w' rv.ownBlock) (hb:rv.ownBlock=some g'∨g'=w.heap.size) :
  SrX B (w'.setCell ⟨Bs,0,none⟩ (.slice (some ⟨g',0,none⟩) l' cap')) Bs n (.slice (some ⟨g',0,none⟩) l' cap') cv lv (rs ++ [r]) cs odd ks m k∧Kq B Bs g w (w'.setCell ⟨Bs,0,none⟩ (.slice (some ⟨g',0,none⟩) l' cap'))∧Ty 3 w w'∧Ty 50 w' (w'.setCell ⟨Bs,0,none⟩ (.slice (some ⟨g',0,none⟩) l' cap')):=by
 have ty:=Ty.grown h.rows hg;have bx:=h.box.ty13 ty (by decide);have cl:Ivs B w' cv cs:=h.cols.keep fun b L hbo e=>(hg.block b (Array.getElem?_eq_some_iff.1 e).1 fun q=>h.part b q.symm hbo).trans e
 have y:SrX B w' Bs n rv cv lv rs cs odd ks m k→True:=fun _=>trivial
 have tz:Ty 50 w' (w'.setCell ⟨Bs,0,none⟩ (.slice (some ⟨g',0,none⟩) l' cap')):=Ty.set bx;refine ⟨⟨bx.set 0 _,hI.ty tz (by decide),cl.ty tz (by decide),(h.lines.ints ty).ty tz (by decide) (by decide) (by decide),fun b hb1 hb2=>?_⟩,(Kq.grown (.inl rfl) hg fun b hb=>h.rows.blk hb).trans (Kq.box bx),ty,tz⟩;simp only [Value.ownBlock,Option.some.injEq] at hb1;subst hb1;rcases hb with q | q
 ·exact h.part _ q hb2
 ·obtain ⟨_,L,e⟩:=h.cols.blk hb2
  have:=(Array.getElem?_eq_some_iff.1 e).1;omega
theorem SrX.addC {B Bs n k g g' l' cap':Nat} {w w':World} {rv cv lv:Value} {rs cs ks:List Nat} {odd:Bool} {m:List (List Int)} {c:Nat} (h:SrX B w Bs n rv cv lv rs cs odd ks m k) (hI:Ivs B w' (.slice (some ⟨g',0,none⟩) l' cap') (cs ++ [c])) (hg:w.grownBy w' cv.ownBlock) (hb:cv.ownBlock=some g'∨g'=w.heap.size) :
  SrX B (w'.setCell ⟨Bs,1,none⟩ (.slice (some ⟨g',0,none⟩) l' cap')) Bs n rv (.slice (some ⟨g',0,none⟩) l' cap') lv rs (cs ++ [c]) odd ks m k∧Kq B Bs g w (w'.setCell ⟨Bs,1,none⟩ (.slice (some ⟨g',0,none⟩) l' cap'))∧Ty 3 w w'∧Ty 50 w' (w'.setCell ⟨Bs,1,none⟩ (.slice (some ⟨g',0,none⟩) l' cap')):=by
 have ty:=Ty.grown h.cols hg;have bx:=h.box.ty13 ty (by decide);have cl:Ivs B w' rv rs:=h.rows.keep fun b L hbo e=>(hg.block b (Array.getElem?_eq_some_iff.1 e).1 fun q=>h.part b hbo q.symm).trans e
 have tz:Ty 50 w' (w'.setCell ⟨Bs,1,none⟩ (.slice (some ⟨g',0,none⟩) l' cap')):=Ty.set bx;refine ⟨⟨bx.set 1 _,cl.ty tz (by decide),hI.ty tz (by decide),(h.lines.ints ty).ty tz (by decide) (by decide) (by decide),fun b hb1 hb2=>?_⟩,(Kq.grown (.inl rfl) hg fun b hb=>h.cols.blk hb).trans (Kq.box bx),ty,tz⟩;simp only [Value.ownBlock,Option.some.injEq] at hb2;subst hb2;rcases hb with q | q
 ·exact h.part _ hb1 q
 ·obtain ⟨_,L,e⟩:=h.rows.blk hb1
  have:=(Array.getElem?_eq_some_iff.1 e).1;omega
theorem SrX.addL {B Bs n k g g' l' cap':Nat} {w w':World} {rv cv lv:Value} {rs cs ks ks':List Nat} {odd:Bool} {m m':List (List Int)} (h:SrX B w Bs n rv cv lv rs cs odd ks m k) (hI:ShtM B w' (.slice (some ⟨g',0,none⟩) l' cap') n ks' m' k) (hg:w.grownBy w' lv.ownBlock) :
  SrX B (w'.setCell ⟨Bs,2,none⟩ (.slice (some ⟨g',0,none⟩) l' cap')) Bs n rv cv (.slice (some ⟨g',0,none⟩) l' cap') rs cs odd ks' m' k∧Kq B Bs g w (w'.setCell ⟨Bs,2,none⟩ (.slice (some ⟨g',0,none⟩) l' cap')):=by
 have ty:Ty 22 w w':=Ty.grown h.lines.1 hg;have bx:=h.box.ty13 ty (by decide);have tz:Ty 50 w' (w'.setCell ⟨Bs,2,none⟩ (.slice (some ⟨g',0,none⟩) l' cap')):=Ty.set bx;exact ⟨⟨bx.set 2 _,(h.rows.ty ty (by decide)).ty tz (by decide),(h.cols.ty ty (by decide)).ty tz (by decide),hI.ty tz (by decide) (by decide) (by decide),h.part⟩,(Kq.grown (.inr rfl) hg fun b hb=>h.lines.blk hb).trans (Kq.box bx)⟩
def zlE (A:Nat→Nat→Int) (B:Nat) (w:World) (Bs n i g:Nat) (ks:List Nat) (k:Nat) (e:Ending) (w':World):Prop :=
 e=.returned (.tuple #[])∧∃rs' cs' odd' ks',Srs A B w' Bs n rs' cs' odd' ks' k∧Stz A n (i+1) rs' cs' odd'∧(∀x∈ks',x∈ks∨x=g)∧Kq B Bs g w w'
def OdH (B:Nat) (W:World) (Bs g n:Nat) (rv cv lv:Value) (rs cs:List Nat) (odd:Bool) (ks:List Nat) (m:List (List Int)) (k c L gk:Nat) (s:Value) (wx:World):Prop :=
 ∃t:Nat,s=.int .i64 (t:Int)∧t≤L∧gk=L-t∧SrX B wx Bs n rv cv lv rs cs (odd ^^ par (abv c (cs.take t))) ks m k∧Ty 50 W wx∧Kq B Bs g W wx
theorem abv_take {cs:List Nat} {c t:Nat} (ht:t<cs.length):abv c (cs.take (t+1))=abv c (cs.take t)+(if c<cs.getD t 0 then 1 else 0):=by
 rw [List.take_succ_eq_append_getElem ht,zjH];simp [abv,ht]
theorem zQF {A:Nat→Nat→Int} {B Bs g n i kw:Nat} {rs cs ks:List Nat} {odd:Bool} {ps:List (Value×Value)} {w:World} (hS:Srs A B w Bs n rs cs odd ks kw) (hZ:Stz A n i rs cs odd) (hA:Arr w g ps) (hz:Zms w ps ((List.range n).map (A i)) kw)
  (hg:∀x∈ks,x≠g) (hBg:B≤g) (hF:Fits A rs cs kw) (h1:1≤kw) (hkw:kw≤274877906944) (hn:n≤64) (hi:i<64) :
  Calls Tryz.prog 27 #[.pointer (some ⟨Bs,0,none⟩),.int .i64 (i:Int),.slice (some ⟨g,0,none⟩) n n] w (zlE A B w Bs n i g ks kw):=by
 have hrl:rs.length≤i:=by
  have:rs.length≤(List.range i).length:=List.Nodup.length_le_of_subset (hZ.up.imp fun hab=>Nat.ne_of_lt hab) fun r hr=>by simpa using hZ.lt r hr
  simpa using this
 have HEL:=hid (eliminate_any (r:=i) hS hZ hA hz hg hF h1 hkw hn (by omega));obtain ⟨rv,cv,lv,s1,s2,s3,s4,s5⟩:=hS;have X0:Hid (SrX B w Bs n rv cv lv rs cs odd ks (lnz A n rs cs) kw):=⟨s1,s2,s3,s4,s5⟩
 have HA:=hid hA;have HG:=hid hg;have HZ:=hid hZ;have HRL:=hid hrl;have HBW:Hid (B≤w.heap.size):=by unfold Hid;have:=hA.1.blk;omega
 have HB:=hid hBg;clear s1 s2 s3 s4 s5 hA hz hg hZ hF h1 hkw hrl hBg;go_enter Tryz.func27,Tryz.ntmps27;go_wp2_with fail;refine HEL.out.mono ?_;rintro e w1 ⟨rfl,qs,ar,zr,ht⟩;have X1:=hid (X0.out.touch ht HA.out HG.out);have K1:Hid (Kq B Bs g w w1):=Kq.touch ht HA.out HB.out;have HIX:=hid (index13 ar zr (by simp) hn);have AR:=hid ar;have ZR:=hid zr;clear ar zr ht X0 HA HEL;go_wp2_with fail;refine HIX.out.mono ?_;rintro e w2 ⟨r,rfl,hr,b⟩;have X2:=hid (X1.out.now b);have K2:Hid (Kq B Bs g w w2):=K1.out.trans (.of b);have AR2:=hid (AR.out.step b);have ZR2:=hid (ZR.out.now b);clear b X1 K1 AR ZR HIX;rcases hr with ⟨rfl,hzero⟩ | ⟨c,rfl,hcn,hlow,hne⟩
 ·have FIN:Hid (zlE A B w Bs n i g ks kw (.returned (.tuple #[])) w2):=by
   refine ⟨rfl,rs,cs,odd,ks,⟨rv,cv,lv,X2.out.box,X2.out.rows,X2.out.cols,X2.out.lines,X2.out.part⟩,HZ.out.skip (fun j hj=>?_),fun x hx=>.inl hx,K2.out⟩;have:=hzero j hj;rw [zqB hj] at this;exact this
  clear hzero X2 K2 AR2 ZR2;go_wp2_with fail;go_end0;exact FIN.out
 ·obtain ⟨ca,ccap,rfl,hcc,hca⟩:=X2.out.cols.form
  obtain ⟨L,hL⟩:∃L,cs.length=L:=⟨_,rfl⟩
  have HL:=hid hL;have HCA:Hid (0<L→∃g,ca=some ⟨g,0,none⟩):=fun q=>hca (by omega)
  have hLc:L≤ccap:=by omega
  have hL64:L≤64:=by have:=HZ.out.len;have:=HRL.out;omega
  rw [hL] at X2;have H0:Hid (OdH B w2 Bs g n rv (.slice ca L ccap) lv rs cs odd ks (lnz A n rs cs) kw c L L (.int .i64 0) w2):=⟨0,rfl,Nat.zero_le _,rfl,by simpa [abv,par] using X2.out,⟨Nat.le_refl _,fun _ _ _ _ h _=>h⟩,Kq.refl _ _ _ _⟩
  have HNE:Hid (mi A (gd rs) (gd cs) rs.length i c≠0):=by
   unfold Hid;rw [zqB hcn] at hne;exact hne
  have HLO:Hid (∀j,j<c→mi A (gd rs) (gd cs) rs.length i j=0):=fun j hj=>by
   have:=hlow j hj;rw [zqB (by omega)] at this;exact this
  have y1:=X2.out.box.at (i:=1) rfl;have q0:¬((c:Int)<0):=by omega
  clear hlow hne hL hca hcc X2;go_wp2_with fail;clear y1
  go_loopg [21] L (fun gk s21 wx=>OdH B w2 Bs g n rv (.slice ca L ccap) lv rs cs odd ks (lnz A n rs cs) kw c L gk s21 wx)
  case atStart=>exact H0.out
  case round =>
   clear H0;obtain ⟨t,rfl,htL,hgk,hx,hty,hkq⟩:=hrel;have XX:=hid hx;have TT:=hid hty;have KK:=hid hkq;have HGK:=hid hgk;clear hx hty hkq hgk
   by_cases hlt:t<L
   ·have hlt':(t:Int)<(L:Int):=by omega
    obtain ⟨gc,rfl⟩:=HCA.out (by omega);have c0:=XX.out.cols.at (i:=t) (by rw [HL.out];exact hlt);obtain ⟨o,ho⟩:∃o,cs.getD t 0=o:=⟨_,rfl⟩
    rw [ho] at c0;have hw:=zNA (i:=t) (by omega);have HMM:Hid (L-(t+1)<gk):=by unfold Hid;rw [HGK.out];omega
    have hat:=abv_take (cs:=cs) (c:=c) (t:=t) (by rw [HL.out];exact hlt);rw [ho] at hat
    by_cases hco:c<o
    ·have hco':(c:Int)<(o:Int):=by omega
     rw [if_pos hco] at hat;have x3:=XX.out.box.at (i:=3) rfl;have f3:=XX.out.box.fz 3;have HN1:Hid (OdH B w2 Bs g n rv (.slice (some ⟨gc,0,none⟩) L ccap) lv rs cs odd ks (lnz A n rs cs) kw c L (L-(t+1)) (.int .i64 ((t+1:Nat):Int)) (wr.setCell ⟨Bs,3,none⟩ (.bool (!(odd ^^ par (abv c (cs.take t))))))):=by
      refine ⟨t+1,rfl,by omega,rfl,?_,TT.out.trans XX.out.put,KK.out.trans (Kq.box XX.out.box)⟩;have:=XX.out.flip (!(odd ^^ par (abv c (cs.take t))));have e:(odd ^^ par (abv c (cs.take (t+1))))=(!(odd ^^ par (abv c (cs.take t)))):=by
       rw [hat];simp [par]
      rw [e];exact this
     generalize (odd ^^ par (abv c (cs.take t)))=od at *;clear hat ho hco XX TT KK HGK;go_wp2_with fail;go_roundg (L-(t+1))
     case rel=>exact HN1.out
     case measure=>exact HMM.out
    ·have hco':¬(c:Int)<(o:Int):=by omega
     rw [if_neg hco,Nat.add_zero] at hat;have HN1:Hid (OdH B w2 Bs g n rv (.slice (some ⟨gc,0,none⟩) L ccap) lv rs cs odd ks (lnz A n rs cs) kw c L (L-(t+1)) (.int .i64 ((t+1:Nat):Int)) wr):=⟨t+1,rfl,by omega,rfl,by rw [hat];exact XX.out,TT.out,KK.out⟩
     clear hat ho hco XX TT KK HGK;go_wp2_with fail;go_roundg (L-(t+1))
     case rel=>exact HN1.out
     case measure=>exact HMM.out
   ·have hlt':¬(t:Int)<(L:Int):=by omega
    obtain rfl:t=L:=by omega
    have XA:=XX.out;rw [List.take_of_length_le (by rw [HL.out];exact Nat.le_refl _)] at XA;generalize hod:(odd ^^ par (abv c cs))=od at XA;have HOD:=hid hod;have HRS:Hid (∃R,rs.length=R):=⟨_,rfl⟩
    obtain ⟨ra,rcap,rfl,hrc,hra⟩:=XA.rows.form;obtain ⟨R,hR⟩:∃R,rs.length=R:=⟨_,rfl⟩
    rw [hR] at XA hrc hra;have HR:=hid hR;obtain ⟨V,hV⟩:∃V,wr.alloc (.cells #[.int .i64 (i:Int)] 3)=V:=⟨_,rfl⟩
    obtain ⟨bv,szv⟩:=alo1 wr (.cells #[.int .i64 (i:Int)] 3);rw [hV] at bv szv;have cv0:V.cell? ⟨wr.heap.size,0,none⟩=some (.int .i64 (i:Int)):=by rw [←hV];exact (Cel.new wr 3 [.int .i64 (i:Int)]).at (i:=0) rfl
    have CV:=hid cv0;have XV:=hid (XA.now bv);have AV:=hid ((AR2.out.ty13 TT.out (by decide)).step bv);have ZV:=hid ((ZR2.out.ty TT.out (by decide)).now bv);have KV:Hid (Kq B Bs g w V):=(K2.out.trans KK.out).trans (.of bv);have EV:=hid hV;have HBV:Hid (B≤V.heap.size):=by unfold Hid;have:=KV.out.1.size;have:=HBW.out;omega
    have HR6:Hid (rs.length≤1000000):=by unfold Hid;have:=HRL.out;omega
    have z0:=XA.box.at (i:=0) rfl;clear XA XX TT KK HGK AR2 ZR2 K2 hod hR hV bv szv cv0 HRS hra;go_wp2_with (at_builtin;rw [EV.out];refine wpList_append_ivs V rfl (.tmp 41) (.tmp 43) rfl B _ rs i rfl XV.out.rows wr.heap.size rfl CV.out HR6.out HBV.out ?_)
    intro g1 cap1 w3 hI hg hb;obtain ⟨xa,ka,ta,tb⟩:=XV.out.addR hI.out hg.out hb.out;have f0:=XV.out.box.ty13 ta (by decide);have f1:=f0.at (i:=0) rfl;have f2:=f0.fz 0;obtain ⟨U,hU⟩:∃U,w3.setCell ⟨Bs,0,none⟩ (.slice (some ⟨g1,0,none⟩) (rs.length+1) cap1)=U:=⟨_,rfl⟩
    rw [hU] at xa ka tb;have AU:=hid ((AV.out.ty13 ta (by decide)).ty13 tb (by decide));have ZU:=hid ((ZV.out.ty ta (by decide)).ty tb (by decide));have KU:=hid (KV.out.trans ka);have XU:=hid xa;obtain ⟨V2,hV2⟩:∃V2,U.alloc (.cells #[.int .i64 (c:Int)] 3)=V2:=⟨_,rfl⟩
    obtain ⟨bv,szv⟩:=alo1 U (.cells #[.int .i64 (c:Int)] 3);rw [hV2] at bv szv;have cv0:V2.cell? ⟨U.heap.size,0,none⟩=some (.int .i64 (c:Int)):=by rw [←hV2];exact (Cel.new U 3 [.int .i64 (c:Int)]).at (i:=0) rfl
    have CV2:=hid cv0;have XV2:=hid (XU.out.now bv);have AV2:=hid (AU.out.step bv);have ZV2:=hid (ZU.out.now bv);have KV2:Hid (Kq B Bs g w V2):=KU.out.trans (.of bv);have HBV2:Hid (B≤V2.heap.size):=by unfold Hid;have:=KV2.out.1.size;have:=HBW.out;omega
    have HC6:Hid (cs.length≤1000000):=by unfold Hid;have:=HL.out;omega
    have EU:=hid hU;have EV2:=hid hV2;have w1:=XU.out.box.at (i:=1) rfl;clear xa ka ta tb f0 hU hV2 bv szv cv0 hI hg hb XV AV ZV KV EV CV HBV AU ZU KU z0 XU;go_upto_region 10 with fail
    rw [EU.out];clear f1 f2;go_wp2_with (at_builtin;rw [EV2.out];refine wpList_append_ivs V2 rfl (.tmp 51) (.tmp 53) rfl B _ cs c rfl XV2.out.cols U.heap.size rfl CV2.out HC6.out HBV2.out ?_)
    intro g2 cap2 w4 hI hg hb;obtain ⟨xa,ka,ta,tb⟩:=XV2.out.addC hI.out hg.out hb.out;have f0:=XV2.out.box.ty13 ta (by decide);have f1:=f0.at (i:=1) rfl;have f2:=f0.fz 1;obtain ⟨U2,hU⟩:∃U2,w4.setCell ⟨Bs,1,none⟩ (.slice (some ⟨g2,0,none⟩) (cs.length+1) cap2)=U2:=⟨_,rfl⟩
    rw [hU] at xa ka tb;have AU:=hid ((AV2.out.ty13 ta (by decide)).ty13 tb (by decide));have ZU:=hid ((ZV2.out.ty ta (by decide)).ty tb (by decide));have KU:=hid (KV2.out.trans ka);have XU:=hid xa;obtain ⟨V3,hV3⟩:∃V3,U2.alloc (.cells #[.slice (some ⟨g,0,none⟩) n n] 22)=V3:=⟨_,rfl⟩
    obtain ⟨bv,szv⟩:=alo1 U2 (.cells #[.slice (some ⟨g,0,none⟩) n n] 22);rw [hV3] at bv szv;have cv0:V3.cell? ⟨U2.heap.size,0,none⟩=some (.slice (some ⟨g,0,none⟩) n n):=by rw [←hV3];exact (Cel.new U2 22 [.slice (some ⟨g,0,none⟩) n n]).at (i:=0) rfl
    have CV3:=hid cv0;have XV3:=hid (XU.out.now bv);have AV3:=hid (AU.out.step bv);have ZV3:=hid (ZU.out.now bv);have KV3:Hid (Kq B Bs g w V3):=KU.out.trans (.of bv);have HBV3:Hid (B≤V3.heap.size):=by unfold Hid;have:=KV3.out.1.size;have:=HBW.out;omega
    have EU2:=hid hU;have EV3:=hid hV3;have w2':=XU.out.box.at (i:=2) rfl;have HML:Hid ((lnz A n rs cs).length<64):=by unfold Hid;rw [zEB];have:=HRL.out;omega
    have HZL:Hid (((List.range n).map fun j=>mi A (gd rs) (gd cs) rs.length i j).length=n):=by unfold Hid;simp
    clear xa ka ta tb f0 hU hV3 bv szv cv0 hI hg hb XV2 AV2 ZV2 KV2 EV2 CV2 HBV2 AU ZU KU w1 XU EU;go_upto_region 11 with fail
    rw [EU2.out];clear f1 f2;go_wp2_with (at_builtin;rw [EV3.out];refine wpList_append_sht V3 rfl (.tmp 61) (.tmp 63) rfl B n kw _ ks _ rfl XV3.out.lines U2.heap.size g rfl CV3.out qs _ AV3.out ZV3.out HZL.out HB.out HG.out HML.out HBV3.out ?_)
    intro g3 l3 cap3 w5 hI hg ho;obtain ⟨xa,ka⟩:=XV3.out.addL hI.out hg.out;have f0:=XV3.out.box.ty13 (Ty.grown XV3.out.lines.1 hg.out) (by decide);have f1:=f0.at (i:=2) rfl;have f2:=f0.fz 2;obtain ⟨U3,hU⟩:∃U3,w5.setCell ⟨Bs,2,none⟩ (.slice (some ⟨g3,0,none⟩) l3 cap3)=U3:=⟨_,rfl⟩
    rw [hU] at xa ka;have FIN:Hid (zlE A B w Bs n i g ks kw (.returned (.tuple #[])) U3):=by
     have hk:=HZ.out.keep hcn HNE.out HLO.out;rw [HOD.out] at hk;refine ⟨rfl,_,_,_,ks ++ [g],⟨_,_,_,xa.box,xa.rows,xa.cols,?_,xa.part⟩,hk,fun x hx=>?_,KV3.out.trans ka⟩
     ·rw [lnz_app HZ.out.len]
      exact xa.lines
     ·rcases List.mem_append.1 hx with q | q
      ·exact .inl q
      ·exact .inr (by simpa using q)
    have EU3:=hid hU;clear xa ka f0 hU hI hg ho XV3 AV3 ZV3 KV3 EV3 CV3 HBV3 w2';go_wp2_with fail;go_end0;rw [EU3.out];exact FIN.out
end Go.Proofs.YtjnokjgbeploaaaGreat
