/-
 QGather8ToWz17: Gather8, Wz17, joined.
-/
import Derived.Test.YtffkmeocmjohmaaGreatQExact0ToCells6
import Derived.Test.YtffkmeocmjohmaaGreatQAlikeToShift
import Derived.Deep.AppendLies
import Derived.Test.YtffkmeocmjohmaaGreatQLc17ToWl17

set_option maxRecDepth 100000
set_option maxHeartbeats 6400000
set_option linter.unusedVariables false
set_option linter.unusedSimpArgs false
namespace Go.Proofs.YtffkmeocmjohmaaGreat
open Go.RowKit
theorem Tryz.infoZ8 : (Tryz.prog.info? 45).map (fun i => (i.zero,i.size,i.bytes)) = some (some (.agg #[.bool false,.slice none 0 0]),2,32) := by kernel_rfl
theorem zAF (g j : Nat) : (⟨g,0,none⟩ : Addr).add j = ⟨g,j,none⟩ := by unfold Addr.add;split <;> simp_all
theorem zm_grown {B base n k : Nat} {w w' : World} {u v : Value} {z : Int} {Us : List Value} (h : Zm B w u z k) (ho : w.ownsRow base 45 2 v n Us) (hg : w.grownBy w' v.ownBlock) : Zm B w' u z k := by
 obtain ⟨n1,zs,a,c,e,hm,rest⟩ := h;refine ⟨n1,zs,a,c,e,?_,rest⟩;obtain ⟨hw,h | ⟨g,r,cap,h1,h2,h3,h4,h5,h6⟩⟩ := hm
 ·exact ⟨hw,.inl h⟩
 ·refine ⟨hw,.inr ⟨g,r,cap,h1,h2,h3,h4,h5,(hg.block g h6.lt fun e => ?_).trans h6⟩⟩
  obtain ⟨_,⟨q,_⟩ | ⟨g',cap',cur,q,_,q4,_⟩⟩ := ho
  ·rw [q] at e;cases e
  ·rw [q] at e
   simp only [Value.ownBlock,Option.some.injEq] at e;subst e;have := h6.symm.trans q4;simp at this
def GatZ (B : Nat) (w : World) (v : Value) (zs : List Int) (k : Nat) : Prop :=
 ∃ Us : List Value,w.ownsRow B 45 2 v zs.length Us ∧ ∀ j z,zs[j]? = some z → ∃ x y,Us[2 * j]? = some x ∧ Us[2 * j + 1]? = some y ∧ Zm 0 w (.agg #[x,y]) z k
theorem GatZ.nil (B : Nat) (w : World) (k : Nat) : GatZ B w (.slice none 0 0) [] k := ⟨[],World.ownsRow_nil _ _ _ _,fun j z h => by simp at h⟩
theorem GatZ.now {B k : Nat} {w w' : World} {v : Value} {zs : List Int} (h : GatZ B w v zs k) (hb : Below w.heap.size w w') : GatZ B w' v zs k := by
 obtain ⟨Us,h1,h3⟩ := h;refine ⟨Us,?_,fun j z hz => ?_⟩
 ·obtain ⟨q1,q2 | ⟨g,cap,cur,q2,q3,q4,q5⟩⟩ := h1
  ·exact ⟨q1,.inl q2⟩
  ·exact ⟨q1,.inr ⟨g,cap,cur,q2,q3,(hb.block g (Array.getElem?_eq_some_iff.1 q4).1).trans q4,q5⟩⟩
 ·obtain ⟨x,y,e1,e2,e3⟩ := h3 j z hz
  exact ⟨x,y,e1,e2,e3.now hb⟩
theorem GatZ.form {B k : Nat} {w : World} {v : Value} {zs : List Int} (h : GatZ B w v zs k) : ∃ a cap,v = .slice a zs.length cap ∧ zs.length ≤ cap := by
 obtain ⟨Us,⟨q1,⟨q2,q3⟩ | ⟨g,cap,cur,q2,q3,q4,q5,q6⟩⟩,h3⟩ := h
 ·exact ⟨none,0,by rw [q2,q3],by omega⟩
 ·exact ⟨_,cap,q2,q5⟩
theorem wpList_append_int17 (w : World) {ops : Array Oper} {rest : List Oper} {o : Oper} {a : Act} {Q : Exit → Act → World → Prop}
  (hgd : o.guard = none) (s x : Operand) (hop : o.op = .call { callee := .builtin .append,args := #[s,x],argTypes := #[33,33] })
  (B k : Nat) (v x0 x1 : Value) (zs : List Int) (z : Int) (hs : a.eval s = v) (hB : GatZ B w v zs k) (g : Nat) (hx : a.eval x = .slice (some ⟨g,0,none⟩) 1 1) (hc0 : w.cell? ⟨g,0,none⟩ = some x0) (hc1 : w.cell? ⟨g,1,none⟩ = some x1) (hu : Zm 0 w (.agg #[x0,x1]) z k) (hlen : zs.length ≤ 1000000000) (hBs : B ≤ w.heap.size)
  (hK : ∀ g' cap' l' w',Hid (l' = zs.length + 1) → Hid (GatZ B w' (.slice (some ⟨g',0,none⟩) l' cap') (zs ++ [z]) k) → Hid (w.grownBy w' v.ownBlock) → Hid (v.ownBlock = some g' ∨ g' = w.heap.size) → wpList Tryz.prog ops Q rest (a.put o.dst (.slice (some ⟨g',0,none⟩) l' cap')) w') :
  wpList Tryz.prog ops Q (o :: rest) a w := by
 obtain ⟨i,hi,hz,hsz,hby⟩ := info_parts Tryz.infoZ8;obtain ⟨Us,h1,h3⟩ := hB;obtain ⟨nx,xs,ax,cx,e,_⟩ := id hu;obtain ⟨rfl,rfl⟩ : x0 = .bool nx ∧ x1 = .slice ax xs.length cx := by
  have : #[x0,x1] = #[Value.bool nx,Value.slice ax xs.length cx] := by simpa using e
  simpa using this
 refine wpList_append_lies w hgd s x 33 hop B 45 i (.agg #[.bool false,.slice none 0 0]) 2 32 Tryz.underlying33 hi hz hsz hby rfl (by omega) v zs.length Us hs h1 ⟨g,0,none⟩ 1 1 [.bool nx,.slice ax xs.length cx] hx rfl ?_ ?_ (by omega) (by unfold maxLen;omega) (by omega) hBs w.heap.size rfl ?_
 ·intro j u' hj
  match j,hj with
  | 0,hj => simp at hj;subst hj;rw [zAF];exact hc0
  | 1,hj => simp at hj;subst hj;rw [zAF];exact hc1
 ·intro u' hu'
  simp at hu';rcases hu' with rfl | rfl <;> rfl
 ·intro g' cap' w' k1 k2 k3 k4
  have keep : ∀ u z k,Zm 0 w u z k → Zm 0 w' u z k := fun u z k h => zm_grown h h1 k2
  have hUl := h1.1;refine hK _ _ _ w' rfl ⟨Us ++ [.bool nx,.slice ax xs.length cx],by rw [List.length_append];exact k1,fun j z' hz' => ?_⟩ k2 k3;rcases Nat.lt_or_ge j zs.length with q | q
  ·rw [List.getElem?_append_left q] at hz'
   obtain ⟨x,y,e1,e2,e3⟩ := h3 j z' hz';exact ⟨x,y,by rw [List.getElem?_append_left (by omega)];exact e1,by rw [List.getElem?_append_left (by omega)];exact e2,keep _ _ _ e3⟩
  ·have hj : j = zs.length := by
    have := (List.getElem?_eq_some_iff.1 hz').1;simp at this;omega
   subst hj;rw [List.getElem?_append_right (by omega)] at hz';simp only [Nat.sub_self,List.getElem?_cons_zero,Option.some.injEq] at hz';subst hz';refine ⟨_,_,?_,?_,keep _ _ _ hu⟩
   ·rw [List.getElem?_append_right (by omega),show 2 * zs.length - Us.length = 0 by omega];rfl
   ·rw [List.getElem?_append_right (by omega),show 2 * zs.length + 1 - Us.length = 1 by omega];rfl
theorem GatZ.ty17 {T : TypeId} {B k : Nat} {w w' : World} {v : Value} {zs : List Int} (h : GatZ B w v zs k) (ht : Ty T w w') (h1 : 45 ≠ T) (h2 : 120 ≠ T) : GatZ B w' v zs k := by
 obtain ⟨Us,q1,q2⟩ := h;refine ⟨Us,zTB q1 fun b hb hlt => ?_,fun j z hz => ?_⟩
 ·obtain ⟨_,⟨r2,_⟩ | ⟨g2,cap,cur,r2,r3,r4,r5⟩⟩ := q1
  ·rw [r2] at hb;cases hb
  ·rw [r2] at hb
   simp only [Value.ownBlock,Option.some.injEq] at hb;subst hb;rw [ht.2 _ _ _ _ r4 h1,r4]
 ·obtain ⟨x,y,e1,e2,e3⟩ := q2 j z hz
  exact ⟨x,y,e1,e2,e3.ty ht h2⟩
theorem GatZ.own17 {B k : Nat} {w : World} {v : Value} {zs : List Int} (h : GatZ B w v zs k) {b : Nat} (hb : v.ownBlock = some b) : B ≤ b ∧ ∃ L,w.heap[b]? = some (.cells L 45 (0,0)) := by
 obtain ⟨Us,⟨_,⟨r2,_⟩ | ⟨g2,cap,cur,r2,r3,r4,r5⟩⟩,_⟩ := h
 ·rw [r2] at hb;cases hb
 ·rw [r2] at hb
  simp only [Value.ownBlock,Option.some.injEq] at hb;subst hb;exact ⟨r3,cur,r4⟩
theorem ShtM.grown17 {B c k : Nat} {w w' : World} {lv : Value} {gs : List Nat} {m : List (List Int)} {row : Option Nat} (h : ShtM B w lv c gs m k) (ht : Ty 45 w w') (hg : w.grownBy w' row) (hr : ∀ b,row = some b → b ∉ gs) : ShtM B w' lv c gs m k := by
 have h0 := h;obtain ⟨h1,h2,h3,h4,h5,h6⟩ := h;refine ⟨zTB h1 fun b hb hlt => ?_,h2,h3,h4,h5,fun j g' hg' => ?_⟩
 ·obtain ⟨_,L,e⟩ := h0.blk hb
  rw [e];exact ht.2 b _ _ _ e (by decide)
 ·obtain ⟨qs,q1,q2⟩ := h6 j g' hg'
  refine ⟨qs,⟨?_,q1.2⟩,q2.ty ht (by decide)⟩;unfold Cel;rw [hg.block g' q1.1.blk fun q => hr g' q.symm (List.mem_of_getElem? hg')];exact q1.1
theorem zBD {B : Nat} {w0 w w' : World} {v : Value} {n size : Nat} {T : TypeId} {xs : List Value} (hb : Below B w0 w) (h : w.ownsRow B T size v n xs) (hg : w.grownBy w' v.ownBlock) (hB : B ≤ w.heap.size) : Below B w0 w' := by
 refine hb.trans ⟨hg.os,hg.tape,hg.output,hg.size,fun b hlt => hg.block b (by omega) (fun e => ?_)⟩;obtain ⟨_,⟨q,_⟩ | ⟨g1,cap1,cur,q,q3,_⟩⟩ := h
 ·rw [q] at e;cases e
 ·rw [q] at e
  simp only [Value.ownBlock,Option.some.injEq] at e;omega
theorem tback2 {f : Func} {s1 s2 : Nat} (hr : f.results = #[ResultVar.tmp s1,ResultVar.tmp s2]) {W : World} {u v : Value} (tmps : Array Value) (hu : tmps[s1]? = some u) (hv : tmps[s2]? = some v) : (results f tmps).run Tryz.prog W = .ok (.tuple #[u,v]) W := by
 simp [results,hr,go_sem,hu,hv]
def wlL (t n : Nat) (R : Nat → Nat → Rat) : List (List Int) := (List.range t).map fun i => (List.range n).map (whl (R i) n)
def wlB (t n : Nat) (R : Nat → Nat → Rat) : List Int := (List.range t).map fun i => (lcn (R i) n : Int)
theorem zSF (t n : Nat) (R : Nat → Nat → Rat) : (wlL t n R).length = t := by simp [wlL]
theorem zTF (t n : Nat) (R : Nat → Nat → Rat) : (wlB t n R).length = t := by simp [wlB]
def WzH (w : World) (m n : Nat) (R : Nat → Nat → Rat) (K gk : Nat) (s2 s3 s10 : Value) (wx : World) : Prop :=
 ∃ (t : Nat) (gs : List Nat),s10 = .int .i64 (t : Int) ∧ t ≤ m ∧ gk = m - t ∧ ShtM w.heap.size wx s2 n gs (wlL t n R) K ∧ GatZ w.heap.size wx s3 (wlB t n R) K ∧ (∀ b,s3.ownBlock = some b → b ∉ gs) ∧ (t = 0 → s2 = .slice none 0 0) ∧ Below w.heap.size w wx
def WzD (w : World) (m n : Nat) (R : Nat → Nat → Rat) (K : Nat) (e : Ending) (w' : World) : Prop :=
 ∃ lv bv gs,e = .returned (.tuple #[lv,bv]) ∧ ShtM w.heap.size w' lv n gs (wlL m n R) K ∧ GatZ w.heap.size w' bv (wlB m n R) K ∧ (m = 0 → lv = .slice none 0 0) ∧ Below w.heap.size w w'
theorem zFC {w : World} {v : Value} {m n k : Nat} {P Q : Nat → Nat → Int} (hv : QLs w v m n P Q k) (hQ : ∀ i j,i < m → j < n → Q i j ≠ 0) (hm : m ≤ 64) (hn : n ≤ 128) (hk : k ≤ 400000000) (hk1 : 1 ≤ k) :
  Calls Tryz.prog 35 #[v] w (WzD w m n (fun i j => Rat.divInt (P i j) (Q i j)) (129 * k + 2)) := by
 have HWL : Hid (∀ {w' u i},i < m → Qs w' u n (P i) (Q i) k → Calls Tryz.prog 64 #[u] w' (WLd w' n (fun j => Rat.divInt (P i j) (Q i j)) (129 * k + 2))) := fun hi h => wholeLine_any h (fun j hj => hQ _ j hi hj) hn hk hk1
 obtain ⟨R,hR⟩ : ∃ R : Nat → Nat → Rat,(fun i j => Rat.divInt (P i j) (Q i j)) = R := ⟨_,rfl⟩
 obtain ⟨KW,hK⟩ : ∃ KW,129 * k + 2 = KW := ⟨_,rfl⟩
 have HR : Hid (∀ i,(fun j => Rat.divInt (P i j) (Q i j)) = R i) := fun i => by rw [← hR]
 rw [hK] at HWL ⊢;rw [hR];have HV := hid hv;obtain ⟨a0,c0,rfl,hc0,hf0⟩ := hv;have F0 : Hid (0 < m → ∃ b off,a0 = some ⟨b,off,none⟩ ∧ ∀ w',Below w.heap.size w w' → ∀ i,i < m → ∃ u,w'.cell? ⟨b,off + i,none⟩ = some u ∧ Qs w' u n (P i) (Q i) k) := fun q => by
  rcases hf0 with h | ⟨b,off,h1,h2,h3⟩
  ·omega
  ·exact ⟨b,off,h1,fun w' hb i hi => by
    obtain ⟨u,e1,e2⟩ := h3 i hi;exact ⟨u,cnow hb e1,e2.now hb⟩⟩
 have H0 : Hid (WzH w m n R KW m (.slice none 0 0) (.slice none 0 0) (.int .i64 0) w) := ⟨0,[],rfl,Nat.zero_le _,rfl,ShtM.nil _ _ _ _,GatZ.nil _ _ _,fun b q => (by cases q),fun _ => rfl,Below.refl _ _⟩
 clear hf0 hQ hR hK hk hk1 HV;go_enter Tryz.func35,Tryz.ntmps35;go_wp2_with fail
 go_loopg [2,3,10] m (fun gk s2 s3 s10 wx => WzH w m n R KW gk s2 s3 s10 wx)
 case atStart => exact H0.out
 case round =>
  clear H0
  rename_i sA sB sC
  obtain ⟨t,gs,rfl,htm,hgk,hS,hG,hne,hz0,hb⟩ := hrel;have SS := hid hS;have GG := hid hG;have NE := hid hne;have G := hid hb;have HG := hid hgk;have HZ0 := hid hz0;obtain ⟨la,lcap,hla,-,-⟩ := hS.form;obtain ⟨ba,bcap,hba,-⟩ := hG.form;rw [zSF] at hla;rw [zTF] at hba;subst hla;subst hba;clear hS hG hne hb hgk hz0
  by_cases hlt : t < m
  ·have hlt' : (t : Int) < (m : Int) := by omega
   obtain ⟨bv,ov,rfl,hel⟩ := F0.out (by omega);obtain ⟨u,e1,e2⟩ := hel wr G.out t hlt;obtain ⟨ua,uc,rfl,-,-,-⟩ := e2.form;have HS := hid (HWL.out hlt e2);rw [HR.out t] at HS;have hwt := zVA (i := t) (by omega);have HMM : Hid (m - (t + 1) < gk) := by unfold Hid;rw [HG.out];omega
   clear e2 hel HG HZ0;go_wp2_with fail;refine HS.out.mono ?_;rintro e w1 ⟨g,r,rfl,hgn,⟨ps,hA,hz⟩,mz,b⟩;obtain ⟨nr,xr,ar,cr,rfl⟩ := mz.parts;obtain ⟨V1,hV1⟩ : ∃ V1,w1.alloc (duo (.bool nr) (.slice ar xr.length cr)) = V1 := ⟨_,rfl⟩
   obtain ⟨b1,sz1⟩ := alo1 w1 (duo (.bool nr) (.slice ar xr.length cr));rw [hV1] at b1 sz1;have DB : Hid (Duo V1 w1.heap.size (.bool nr) (.slice ar xr.length cr)) := by unfold Hid;rw [← hV1];exact Duo.new w1 _ _
   obtain ⟨V2,hV2⟩ : ∃ V2,V1.alloc (.cells #[.slice (some ⟨g,0,none⟩) n n] 33) = V2 := ⟨_,rfl⟩
   obtain ⟨b2,sz2⟩ := alo1 V1 (.cells #[.slice (some ⟨g,0,none⟩) n n] 33);rw [hV2] at b2 sz2;have CX : Hid (V2.cell? ⟨w1.heap.size + 1,0,none⟩ = some (.slice (some ⟨g,0,none⟩) n n)) := by
    unfold Hid;rw [← hV2];have := (Cel.new V1 33 [.slice (some ⟨g,0,none⟩) n n]).at (i := 0) rfl;rw [sz1] at this;exact this
   have BB := hid (zAA b (zAA b1 b2));have S2 := hid (SS.out.kc (zMD BB.out));have G2 := hid (GG.out.now BB.out);have A2 := hid (hA.step (zAA b1 b2));have Z2 := hid (hz.now (zAA b1 b2));have M2 := hid ((mz.mono (Nat.zero_le _)).now (zAA b1 b2));have D2 := hid (DB.out.step b2);have W2 := hid (zAA G.out BB.out);have HGN : Hid (wr.heap.size ≤ g) := hgn;have HGL : Hid (∀ g' ∈ gs,g' ≠ g) := fun g' hg' e => by have := SS.out.lt g' hg';omega
   have HBG : Hid (w.heap.size ≤ g) := by unfold Hid;have := G.out.size;omega
   have HBO : Hid (∀ b,(Value.slice ba t bcap).ownBlock = some b → b ∉ gs ++ [g]) := fun b hb hm => by
    rcases List.mem_append.1 hm with q | q
    ·exact NE.out b hb q
    ·have h1 := (GG.out.own17 hb).2
     obtain ⟨L,h1⟩ := h1;have := (Array.getElem?_eq_some_iff.1 h1).1;simp at q;omega
   have HZL : Hid (((List.range n).map (whl (R t) n)).length = n) := by unfold Hid;simp
   have HML : Hid ((wlL t n R).length < 64) := by unfold Hid;rw [zSF];omega
   have EV : Hid ((w1.alloc (duo (.bool nr) (.slice ar xr.length cr))).alloc (.cells #[.slice (some ⟨g,0,none⟩) n n] 33) = V2) := by unfold Hid;rw [hV1];exact hV2
   clear HS hA hz mz b b1 sz1 hV1 b2 sz2 hV2 DB BB SS GG NE G hgn e1;go_wp2_with (at_builtin;rw [EV.out];refine zfB V2 rfl (.tmp 19) (.tmp 21) rfl w.heap.size n KW _ gs _ rfl S2.out (w1.heap.size + 1) g rfl CX.out ps _ A2.out Z2.out HZL.out HBG.out HGL.out HML.out W2.out.size ?_)
   intro g3 l3 cap3 w3 hI hg ho;have TG : Hid (Ty 33 V2 w3) := Ty.grown S2.out.1 hg.out;have S3 : Hid (ShtM w.heap.size w3 (.slice (some ⟨g3,0,none⟩) l3 cap3) n (gs ++ [g]) (wlL (t + 1) n R) KW) := by
    unfold Hid;have e : wlL (t + 1) n R = wlL t n R ++ [(List.range n).map (whl (R t) n)] := by unfold wlL;rw [List.range_succ,List.map_append];rfl
    rw [e];exact hI.out
   have G3 := hid (G2.out.ty17 TG.out (by decide) (by decide));have M3 := hid (M2.out.ty TG.out (by decide));have D3 := hid (D2.out.ty17 TG.out (by decide));have W3 : Hid (Below w.heap.size w w3) := zBD W2.out S2.out.1 hg.out W2.out.size;have y0 := D3.out.c0;have y1 := D3.out.c1;obtain ⟨V4,hV4⟩ : ∃ V4,w3.alloc (duo (.bool nr) (.slice ar xr.length cr)) = V4 := ⟨_,rfl⟩
   obtain ⟨b4,sz4⟩ := alo1 w3 (duo (.bool nr) (.slice ar xr.length cr));rw [hV4] at b4 sz4;have C4 : Hid (Duo V4 w3.heap.size (.bool nr) (.slice ar xr.length cr)) := by unfold Hid;rw [← hV4];exact Duo.new w3 _ _
   have S4 := hid (S3.out.kc (zMD b4));have G4 := hid (G3.out.now b4);have M4 := hid (M3.out.now b4);have W4 := hid (zAA W3.out b4);have HL4 : Hid ((wlB t n R).length ≤ 1000000000) := by unfold Hid;rw [zTF];omega
   have EV4 := hid hV4;have HSZ : Hid (∀ x ∈ gs ++ [g],x < w3.heap.size) := S3.out.lt;have HS4 := hid sz4;clear hI hg ho S2 G2 A2 Z2 M2 D2 W2 CX EV TG S3 G3 M3 D3 W3 b4 sz4 hV4 HGL HZL HML;go_wp2_with (at_builtin;rw [EV4.out];refine wpList_append_int17 V4 rfl (.tmp 23) (.tmp 25) rfl w.heap.size KW _ (.bool nr) (.slice ar xr.length cr) _ _ rfl G4.out w3.heap.size rfl C4.out.c0 C4.out.c1 M4.out HL4.out W4.out.size ?_)
   intro g5 cap5 l5 w5 hl5 hI hg ho;have HN1 : Hid (WzH w m n R KW (m - (t + 1)) (.slice (some ⟨g3,0,none⟩) l3 cap3) (.slice (some ⟨g5,0,none⟩) l5 cap5) (.int .i64 ((t + 1 : Nat) : Int)) w5) := by
    obtain ⟨Us,hU,hU2⟩ := id G4.out;have TG := Ty.grown hU hg.out;refine ⟨t + 1,gs ++ [g],rfl,by omega,rfl,S4.out.grown17 TG hg.out HBO.out,?_,fun b hb hm => ?_,fun q => by omega,zBD W4.out hU hg.out W4.out.size⟩
    ·have e : wlB (t + 1) n R = wlB t n R ++ [(lcn (R t) n : Int)] := by unfold wlB;rw [List.range_succ,List.map_append];rfl
     rw [e];exact hI.out
    ·simp only [Value.ownBlock,Option.some.injEq] at hb
     subst hb;rcases ho.out with q | q
     ·exact HBO.out _ q hm
     ·have := HSZ.out _ hm
      have := HS4.out;omega
   clear hl5 hI hg ho S4 G4 M4 W4 C4 EV4 HL4 y0 y1 HSZ HS4 HBO HBG HGN;go_wp2_with fail;go_roundg (m - (t + 1))
   case rel => exact HN1.out
   case measure => exact HMM.out
  ·have hlt' : ¬ (t : Int) < (m : Int) := by omega
   obtain rfl : t = m := by omega
   have FF : Hid (WzD w t n R KW (.returned (.tuple #[.slice la t lcap,.slice ba t bcap])) wr) := ⟨_,_,gs,rfl,SS.out,GG.out,HZ0.out,G.out⟩
   clear SS GG NE G HG HZ0;go_wp2;exact bodyPost_ret (tback2 Tryz.results35 _ (by rfl) (by rfl)) rfl FF.out
end Go.Proofs.YtffkmeocmjohmaaGreat
