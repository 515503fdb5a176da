/-
 QLi18ToZg18: Li18, Mat11, Zg18, joined.
-/
import Derived.Test.YtmnecbniappnaaaGreatQEachM11ToPr12
import Derived.Test.YtmnecbniappnaaaGreatQDz12ToRl17
import Derived.Test.YtmnecbniappnaaaGreatQFil9ToRowsOf9
import Derived.Test.YtmnecbniappnaaaGreatQLm6ToLeastA9

set_option maxRecDepth 100000
set_option maxHeartbeats 6400000
set_option linter.unusedVariables false
set_option linter.unusedSimpArgs false
namespace Go.Proofs.YtmnecbniappnaaaGreat
open Go.RowKit Go.Shelf
attribute [local go_sem] Oper.semAt_some
theorem wpList_append_sht18 (w : World) {ops : Array Oper} {rest : List Oper} {o : Oper} {a : Act} {Q : Exit → Act → World → Prop}
  (hgd : o.guard = none) (s x : Operand) (hop : o.op = .call { callee := .builtin .append,args := #[s,x],argTypes := #[45,45] })
  (B c k : Nat) (v : Value) (gs : List Nat) (m : List (List Int)) (hs : a.eval s = v) (hB : ShtM B w v c gs m k) (q gx : Nat) (hx : a.eval x = .slice (some ⟨q,0,none⟩) 1 1) (hc0 : w.cell? ⟨q,0,none⟩ = some (.slice (some ⟨gx,0,none⟩) c c))
  (ps : List (Value × Value)) (zs : List Int) (hA : Arr w gx ps) (hz : Zms w ps zs k) (hzl : zs.length = c) (hgx : B ≤ gx) (hnew : ∀ g ∈ gs,g ≠ gx) (hlen : m.length < 64) (hBs : B ≤ w.heap.size)
  (hK : ∀ g' l' cap' w',Hid (ShtM B w' (.slice (some ⟨g',0,none⟩) l' cap') c (gs ++ [gx]) (m ++ [zs]) k) → Hid (w.grownBy w' v.ownBlock) → Hid (∀ b,v.ownBlock = some b → B ≤ b ∧ ∃ L,w.heap[b]? = some (.cells L 22 (0,0))) → wpList Tryz.prog ops Q rest (a.put o.dst (.slice (some ⟨g',0,none⟩) l' cap')) w') :
  wpList Tryz.prog ops Q (o :: rest) a w := by
 obtain ⟨i,hii,hzz,hsz,hby⟩ := info_parts Tryz.infoL9;obtain ⟨h1,h2,h3,h4,h5,h6⟩ := hB;have ea : ∀ j,(⟨q,0,none⟩ : Addr).add j = ⟨q,j,none⟩ := fun j => by unfold Addr.add;split <;> simp_all
 refine wpList_append_lies w hgd s x 45 hop B 22 i (.slice none 0 0) 1 24 Tryz.underlying45 hii hzz hsz hby rfl (by omega) v gs.length (gs.map (rowv c)) hs h1 ⟨q,0,none⟩ 1 1 [rowv c gx] hx rfl ?_ ?_ (by omega) (by unfold maxLen;omega) (by omega) hBs w.heap.size rfl ?_
 ·intro j u' hj
  match j,hj with
  | 0,hj => simp at hj;subst hj;rw [ea];exact hc0
 ·intro u' hu'
  simp at hu';subst hu'
  rfl
 ·intro g' cap' w' k1 k2 k3 k4
  have ht := Ty.grown h1 k2;have hown : ∀ b,v.ownBlock = some b → B ≤ b ∧ ∃ L,w.heap[b]? = some (.cells L 22 (0,0)) := fun b hb => by
   obtain ⟨_,⟨r2,_⟩ | ⟨g2,cap,cur,r2,r3,r4,r5⟩⟩ := h1
   ·rw [r2] at hb;cases hb
   ·rw [r2] at hb
    simp only [Value.ownBlock,Option.some.injEq] at hb;subst hb;exact ⟨r3,cur,r4⟩
  refine hK g' _ cap' w' ⟨by rw [List.length_append,List.map_append];exact k1,?_,by simp [h3],?_,?_,fun j g hg => ?_⟩ k2 hown
  ·intro s t g hs ht
   have hs1 := (List.getElem?_eq_some_iff.1 hs).1;have ht1 := (List.getElem?_eq_some_iff.1 ht).1;simp at hs1 ht1
   by_cases p1 : s < gs.length
   ·rw [List.getElem?_append_left p1] at hs
    by_cases p2 : t < gs.length
    ·rw [List.getElem?_append_left p2] at ht
     exact h2 s t g hs ht
    ·rw [List.getElem?_append_right (by omega)] at ht
     have : t - gs.length = 0 := by omega
     rw [this] at ht;simp at ht;exact absurd ht.symm (hnew g (List.mem_of_getElem? hs))
   ·by_cases p2 : t < gs.length
    ·rw [List.getElem?_append_left p2] at ht
     rw [List.getElem?_append_right (by omega)] at hs;have : s - gs.length = 0 := by omega
     rw [this] at hs;simp at hs;exact absurd hs.symm (hnew g (List.mem_of_getElem? ht))
    ·omega
  ·intro g hg
   rcases List.mem_append.1 hg with r | r
   ·exact h4 g r
   ·simp at r;subst r;exact hgx
  ·intro r hr
   rcases List.mem_append.1 hr with q' | q'
   ·exact h5 r q'
   ·simp at q';subst q';exact hzl
  ·have carry : ∀ g ps',Arr w g ps' → Arr w' g ps' := fun g ps' hA' => ⟨ht.2 g _ _ _ hA'.1 (by decide),hA'.2⟩
   by_cases p : j < gs.length
   ·rw [List.getElem?_append_left p] at hg
    obtain ⟨ps',r1,r2⟩ := h6 j g hg;have e : zgB (m ++ [zs]) j = zgB m j := by simp [zgB,List.getElem?_append_left (show j < m.length by omega)]
    rw [e];exact ⟨ps',carry _ _ r1,r2.ty ht (by decide)⟩
   ·have hj : j = gs.length := by have := (List.getElem?_eq_some_iff.1 hg).1;simp at this;omega
    subst hj;simp at hg;subst hg;have e : zgB (m ++ [zs]) gs.length = zs := by simp [zgB,h3]
    rw [e];exact ⟨ps,carry _ _ hA,hz.ty ht (by decide)⟩
def zPH (w : World) (Bw c k : Nat) (m : List (List Int)) (s : Nat × List Nat) (W : World) : Prop :=
 ∃ a n q,Cel W Bw 45 [.slice a n q] ∧ ShtM s.1 W (.slice a n q) c s.2 (m.take s.2.length) k ∧ s.2.length ≤ m.length ∧ Below w.heap.size w W ∧ w.heap.size ≤ s.1 ∧ (s.2 = [] → Value.slice a n q = .slice none 0 0)
theorem zPH.own {w : World} {Bw c k B : Nat} {m : List (List Int)} (hB : w.heap.size ≤ B) : OwnFrom B (zPH w Bw c k m) := fun s W W' row hs hg hr => by
 obtain ⟨a,n,q,h1,h3,h4,h5,h6,h7⟩ := hs;have hk := zjC hg (fun r e => (hr r e).2);exact ⟨a,n,q,hk.cel h1,h3.kc hk,h4,h5.grown hg h5.size (fun k e => Nat.le_trans hB (hr k e).1),h6,h7⟩
def lm18 (m : List (List Int)) : Nat → Nat → Int := fun i j => (zgB m i).getD j 0
theorem ShtM.sh18 {B c k : Nat} {w : World} {lv : Value} {gs : List Nat} {m : List (List Int)} (h : ShtM B w lv c gs m k) (hnil : m.length = 0 → lv = .slice none 0 0) : Sh17 B w lv m.length c (fun i => gs.getD i 0) (lm18 m) k := by
 obtain ⟨h1,h2,h3,h4,h5,h6⟩ := h;have hat : ∀ i,i < m.length → gs[i]? = some (gs.getD i 0) := fun i hi => by rw [List.getD_eq_getElem?_getD,List.getElem?_eq_getElem (by omega)];simp
 refine ⟨?_,fun i j hi hj e => ?_,fun i hi => ⟨h4 _ (List.mem_of_getElem? (hat i hi)),?_⟩⟩
 ·rcases h1.2 with ⟨e,e0⟩ | ⟨g,cap,cur,e,e0,e1,e2,e3,e4,e5⟩
  ·exact .inl ⟨by omega,e⟩
  ·by_cases q : m.length = 0
   ·exact .inl ⟨q,hnil q⟩
   ·refine .inr ⟨by omega,g,cap,cur.toList.drop m.length,by rw [e,h3],by omega,e0,?_⟩
    have e6 : gv17 m.length c (fun i => gs.getD i 0) = gs.map (rowv c) := by
     apply List.ext_getElem?
     intro t
     by_cases q : t < m.length
     ·simp only [gv17,List.getElem?_map,List.getElem?_range q,hat t q,Option.map_some]
     ·rw [List.getElem?_eq_none (by simp [gv17];omega),List.getElem?_eq_none (by simp;omega)]
    have e7 : gs.map (rowv c) ++ cur.toList.drop m.length = cur.toList := by
     rw [← e5,h3,Nat.mul_one,List.take_append_drop]
    rw [e6,e7]
    show w.heap[g]? = some (.cells cur.toList.toArray _ _)
    simpa using e1
 ·exact h2 i j _ (hat i hi) (by rw [hat j hj];exact congrArg some e.symm)
 ·obtain ⟨ps,p1,p2⟩ := h6 i _ (hat i hi)
  refine ⟨ps,p1,?_⟩;have e : (List.range c).map (lm18 m i) = zgB m i := by
   have hl : (zgB m i).length = c := h5.at hi
   apply List.ext_getElem?
   intro t
   by_cases q : t < c
   ·rw [List.getElem?_map,List.getElem?_range q]
    show some ((zgB m i).getD t 0) = _
    rw [List.getD_eq_getElem?_getD,List.getElem?_eq_getElem (by omega)];simp
   ·rw [List.getElem?_eq_none (by simp;omega),List.getElem?_eq_none (by omega)]
  rw [e];exact p2
theorem gv_list18 {c n : Nat} {gs : List Nat} (h : gs.length = n) : gv17 n c (fun i => gs.getD i 0) = gs.map (rowv c) := by
 apply List.ext_getElem?
 intro t
 by_cases q : t < n
 ·rw [gv17,List.getElem?_map,List.getElem?_range q,List.getElem?_map,List.getElem?_eq_getElem (by omega)]
  simp [show t < gs.length by omega]
 ·rw [List.getElem?_eq_none (by simp [gv17];omega),List.getElem?_eq_none (by simp;omega)]
def Lined18 (w : World) (c : Nat) (m : List (List Int)) (k : Nat) (e : Ending) (w' : World) : Prop := ∃ lv gs,e = .returned lv ∧ Sh17 w.heap.size w' lv m.length c gs (lm18 m) k ∧ Below w.heap.size w w'
def zRG (w : World) (c : Nat) (m : List (List Int)) (k : Nat) (e : Ending) (w' : World) : Prop := ∃ lv gs,e = .returned lv ∧ Sh17 w.heap.size w' lv m.length c gs (lm18 m) k ∧ w'.ownsRow w.heap.size 22 1 lv m.length (gv17 m.length c gs) ∧ Below w.heap.size w w'
theorem zPE {w : World} {v : Value} {r c : Nat} {zs : List Int} {k : Nat} (h : Mx w v r c zs k) : Calls Tryz.prog 14 #[v] w (zRG w c (rowsL r c zs) k) := by
 have M0 := hid h;refine (callsIn_wide (n := 5)).1 ?_;obtain ⟨aa,ca,rfl,hr,hc⟩ := h.form;have HZL : Hid (zs.length = r * c) := by obtain ⟨_,_,_,_,_,h,_⟩ := h;exact h
 obtain ⟨la,hla⟩ : ∃ la,r * c = la := ⟨_,rfl⟩
 rw [hla] at M0 ⊢;obtain ⟨W0,hW⟩ : ∃ W0,(w.alloc (matO r c (.slice aa la ca))).alloc (.cells #[.slice none 0 0] 45) = W0 := ⟨_,rfl⟩
 obtain ⟨b0,sz0⟩ := zYA w (matO r c (.slice aa la ca)) (.cells #[.slice none 0 0] 45);rw [hW] at b0 sz0;have pa : Cel W0 w.heap.size 24 (matc r c (.slice aa la ca)) := by
  rw [← hW];exact (Cel.new w 24 (matc r c (.slice aa la ca))).step ((Below.refl _ _).alloc (Nat.le_refl _) _)
 have PW : Hid (Cel W0 (w.heap.size + 1) 45 [.slice none 0 0]) := by
  unfold Hid;rw [← hW];have := Cel.new (w.alloc (matO r c (.slice aa la ca))) 45 [.slice none 0 0]
  simpa using this
 have HLI := hid (lines_yes (M0.out.now b0));have x0 := pa.at (i := 0) rfl;have x1 := pa.at (i := 1) rfl;have x2 := pa.at (i := 2) rfl;rw [← hW] at x0 x1 x2;have G0 := hid b0;have EW := hid hW;have SZ := hid sz0;clear h hla b0 sz0 hW pa M0;refine callsIn_of_wp_marks Tryz.func14 rfl trivial ?_ rfl;simp only [Tryz.ntmps14,List.size_toArray,List.length_cons,List.length_nil,Nat.reduceAdd,Nat.reduceSub,Array.replicate_succ,Array.replicate_zero,List.push_toArray,List.append_toArray,List.nil_append,List.cons_append];gi_wp2_with fail;rw [EW.out];clear EW;refine ⟨trivial,(callsIn_wide.2 HLI.out).mono ?_⟩;rintro e w1 ⟨Bs,ga,ps,rfl,q1,q2,q3,q4,q5,b⟩;have HQ3 := hid q3;have HQ5 := hid q5;have HB1 := hid b;have HQ1 := hid q1;have G1 := hid (below_step G0.out b);replace PW := hid (PW.out.step b);have hs1 := b.size;have hsz := SZ.out;clear q1 q3 q5 b x0 x1 x2 HLI G0;gi_wp2_with fail;have hml : (rowsL r c zs).length = r := zbB;refine rangeW (σ := Nat × List Nat) (α := Nat × Nat) (by decide) rfl (enters_of Tryz.func52 (by kernel_rfl) rfl) (encL c) (fun _ => rfl)
  (zPH w (w.heap.size + 1) c k (rowsL r c zs)) (zPH.own (by omega)) (AtL k (rowsL r c zs)) (fun s x => AtL.own s x) (fun s x => (s.1,s.2 ++ [x.2]))
  (fun s => KpL (· = w.heap.size + 1) s.1) (fun h h' => h.trans h') (fun s W l o o' _ h1 h2 => KpL.put h1 h2) (fun s => s.2 = [] ∧ w.heap.size ≤ s.1) (fun s => s.2.length = r) ?ini ?it (fun x => { tmps := #[matv r c (.slice aa la ca),.pointer (some ⟨w.heap.size,0,none⟩),.slice none 0 0,.pointer (some ⟨w.heap.size + 1,0,none⟩),undef,.slice (some ⟨x.2,0,none⟩) c c,.agg #[.int .i64 (r : Int),.int .i64 (c : Int),.slice aa la ca],.func (.func 52) #[] #[.pointer (some ⟨Bs,0,none⟩)],.int .i64 (x.1 : Int),.slice (some ⟨x.2,0,none⟩) c c,undef,undef,undef,undef,undef],defers := [] }) ?assign ?body ?done
 case ini =>
  rintro ⟨B,gs⟩ ⟨rfl,hB⟩;exact ⟨_,_,_,PW.out,ShtM.nil _ _ _ _,Nat.zero_le _,G1.out,hB,fun _ => rfl⟩
 case it =>
  intro l J' W hW hJ hJb hJ0 hY;have c1 : Cel W Bs 24 (matc r c (.slice (some ⟨ga,0,none⟩) (r * c) (r * c))) := HQ1.out.step hW;have ar := HQ3.out.step hW;have zr := HQ5.out.now hW;have hrc : r * c ≤ 64 * 64 := Nat.mul_le_mul hr hc;have pr : Prs (w.heap.size + 1 + 1 + 0) W (.slice (some ⟨ga,0,none⟩) (r * c) (r * c)) ps := by
   have := ar.prs (B := w.heap.size + 1 + 1 + 0) (by omega) (by omega) (cap := r * c) (by omega);rw [q4] at this;exact this
  refine (lines1_in (by decide) J' c1 pr q4 zr.zis hr hc hJb (fun B hB => hJ0 _ ⟨rfl,Nat.le_trans (Nat.le_trans G1.out.size hW.size) hB⟩) (fun s A h => by
   obtain ⟨_,_,_,_,h3,_⟩ := hJ s A h;exact h3.lt) (by have := hW.size;omega) (fun b off x hs e => ?_) (fun b hs => Nat.le_of_eq hs) (fun s x X h1 h2 _ => hY s x X h1 h2)).mono (fun e Y h => h)
  have hs' : b = w.heap.size + 1 := hs;subst hs';have d := PW.out.step hW
  match off,e with
  | 0,e => rw [d.at (i := 0) rfl] at e;simp at e
  | off + 1,e => simp [World.cell?,show W.heap[w.heap.size + 1]? = _ from d] at e
 case assign =>
  intro l x W K hK;have HKK := hid hK;clear hK;gi_wp2;exact HKK.out
 case body =>
  rintro l ⟨B,gs⟩ ⟨t,gx⟩ W ⟨a,n,q,h1,h3,h4,h5,h6,-⟩ ⟨k1,k2,k3,k4,k5,ps',k6,k7⟩;dsimp only at k1 k2 k3 k4 k5 k6 k7 h3 h4 h6 ⊢;obtain ⟨V,hV⟩ : ∃ V,W.alloc (.cells #[.slice (some ⟨gx,0,none⟩) c c] 22) = V := ⟨_,rfl⟩
  obtain ⟨bv,szv⟩ := alo1 W (.cells #[.slice (some ⟨gx,0,none⟩) c c] 22);rw [hV] at bv szv;have cv : V.cell? ⟨W.heap.size,0,none⟩ = some (.slice (some ⟨gx,0,none⟩) c c) := by rw [← hV];exact (Cel.new W 22 [.slice (some ⟨gx,0,none⟩) c c]).at (i := 0) rfl
  have CV := hid cv;have kv := kc_below bv;have X1 := hid (h1.step bv);have S3 := hid (h3.kc kv);have B5 := hid (below_step h5 bv);have A6 := hid (k6.step bv);have Z7 := hid (k7.now bv);have BV := hid bv;have HB6 := hid h6;have hzl : (zgB (rowsL r c zs) gs.length).length = c := (rows_wide HZL.out).at k2;have y1 := h1.at (i := 0) rfl;have EV := hid hV;have HK4 : Hid (B ≤ V.heap.size) := Nat.le_trans k4 bv.size;have HTL : Hid ((List.take gs.length (rowsL r c zs)).length < 64) := by unfold Hid;rw [List.length_take];omega
  have HTS : Hid (List.take gs.length (rowsL r c zs) ++ [zgB (rowsL r c zs) gs.length] = List.take (gs ++ [gx]).length (rowsL r c zs)) := by
   unfold Hid;rw [List.length_append,List.length_singleton,List.take_succ_eq_append_getElem k2];simp [zgB,k2]
  have HK5 := hid k5;refine wpIn_block (region_roundL (hno_of11 (by kernel_rfl)) (by rintro ⟨a,w,h⟩;cases h.1) ?_);clear h1 h3 h5 h6 k5 k6 k7 kv bv szv hV cv;dsimp only;go_wp2_with (at_builtin;rw [EV.out];refine wpList_append_sht18 V rfl (.tmp 10) (.tmp 12) rfl B c k _ gs _ rfl S3.out W.heap.size gx rfl CV.out ps' _ A6.out Z7.out hzl k3 HK5.out HTL.out HK4.out ?_)
  intro g' l' cap' w3 hS hg hown;have kcv : ∀ (b : Nat) (T : TypeId) (L : List Value),Cel V b T L → T ≠ 22 → Cel w3 b T L := fun b T L d hT => by
   refine (hg.out.block b d.blk (fun e => ?_)).trans d;obtain ⟨_,L',q'⟩ := hown.out b e.symm;have := q'.symm.trans (show V.heap[b]? = _ from d);simp at this;exact hT this.2.symm
  have Y1 := hid (kcv _ _ _ X1.out (by decide));have y0 := Y1.out.at (i := 0) rfl;have f0 := Y1.out.fz 0;obtain ⟨U,hU⟩ : ∃ U,w3.setCell ⟨w.heap.size + 1,0,none⟩ (.slice (some ⟨g',0,none⟩) l' cap') = U := ⟨_,rfl⟩
  have FJ : Hid (zPH w (w.heap.size + 1) c k (rowsL r c zs) (B,gs ++ [gx]) U) := by
   unfold Hid;rw [← hU];refine ⟨_,_,_,Y1.out.set 0 _,?_,by rw [List.length_append];simp;omega,bset ?_ (by omega),HB6.out,fun q => by simp at q⟩
   ·have := hS.out.off (i := 0) (u := .slice (some ⟨g',0,none⟩) l' cap') Y1.out (by decide) (by decide) (by decide)
    rw [HTS.out] at this;exact this
   ·exact B5.out.trans ⟨hg.out.os,hg.out.tape,hg.out.output,hg.out.size,fun b hb => hg.out.block b (Nat.lt_of_lt_of_le hb B5.out.size) (fun e => by have := (hown.out b e.symm).1;have := HB6.out;omega)⟩
  have FK : Hid (KeepsFrom w1.heap.size W U) := by
   unfold Hid;rw [← hU];refine ⟨by simp;exact Nat.le_trans BV.out.size hg.out.size,fun j o hj e ho => ?_⟩;have e1 := (BV.out.block j (Array.getElem?_eq_some_iff.1 e).1).trans e;have e2 := (hg.out.block j (Array.getElem?_eq_some_iff.1 e1).1 (fun q' => by
    obtain ⟨_,L',q''⟩ := hown.out j q'.symm;rw [e1,Option.some.injEq] at q'';subst q'';cases ho)).trans e1
   refine (Below.heap_setCell w3 _ _ j (fun q' => ?_)).trans e2;have q'' : j = w.heap.size + 1 := by simpa using q'
   subst q'';have := e2.symm.trans (show w3.heap[_]? = _ from Y1.out);rw [Option.some.injEq] at this;subst this;cases ho
  have FP : Hid (KpL (· = w.heap.size + 1) B W U) := by
   unfold Hid;rw [← hU];refine ⟨by simp;exact Nat.le_trans BV.out.size hg.out.size,fun j o hj hne e ho => ?_⟩;have e1 := (BV.out.block j (Array.getElem?_eq_some_iff.1 e).1).trans e;have e2 := (hg.out.block j (Array.getElem?_eq_some_iff.1 e1).1 (fun q' => by have := (hown.out j q'.symm).1;omega)).trans e1;exact (Below.heap_setCell w3 _ _ j (fun q' => hne (by simpa using q'))).trans e2
  have EU := hid hU;clear hU hS hg hown kcv X1 S3 B5 A6 Z7 BV CV HTS HTL HK4 HK5 EV y1;go_wp2;rw [EU.out];exact ⟨trivial,FK.out,FJ.out,FP.out⟩
 case done =>
  rintro D ⟨B,gs⟩ W hDs hl ⟨a,n,q,h1,h3,h4,h5,h6,h7⟩ hD;dsimp only at hl h3 h6;have x0 := h1.at (i := 0) rfl;have kg := zjC (grownBy_putObj' W D (.deferred none)) (fun r e => by cases e;exact ⟨_,hD,rfl⟩);have BB := h5.trans (belowK_b (w := w) (Nat.le_refl _) _ D _ (.deferred none) (by have := G1.out.size;omega) hD rfl rfl);have HZ : Hid (zRG w c (rowsL r c zs) k (.returned (.slice a n q)) (W.putObj D (.deferred none))) := by
   have s3 := h3.kc kg;rw [hl,List.take_of_length_le (by omega)] at s3;obtain ⟨z1,z2,z3,z4,z5,z6⟩ := s3;have o1 := zQC z1 h6;have hgl : gs.length = (rowsL r c zs).length := z3;rw [← gv_list18 (c := c) hgl,hgl] at o1;exact ⟨_,_,rfl,ShtM.sh18 ⟨zQC z1 h6,z2,z3,fun g hg => Nat.le_trans h6 (z4 g hg),z5,z6⟩ (fun q => h7 (List.eq_nil_of_length_eq_zero (by omega))),o1,BB⟩
  have HK := hid hD;clear h1 h3 h4 h5 kg BB hD;gi_wp2;refine ⟨by simp,.inl ⟨_,_,rfl,run_takeDeferred HK.out,?_⟩⟩;exact ⟨_,by simp [results,Tryz.results14,go_sem],HZ.out⟩
theorem zPF {w : World} {v : Value} {r c : Nat} {zs : List Int} {k : Nat} (h : Mx w v r c zs k) : Calls Tryz.prog 14 #[v] w (Lined18 w c (rowsL r c zs) k) := (zPE h).mono fun _ _ ⟨lv,gs,h1,h2,_,h4⟩ => ⟨lv,gs,h1,h2,h4⟩
end Go.Proofs.YtmnecbniappnaaaGreat
namespace Go.Proofs.YtmnecbniappnaaaGreat
open Go.RowKit
theorem zIG {w : World} {B r c : Nat} {at_ : Value} {ps : List (Value × Value)} {zs : List Int} {k : Nat} (hA : Prs B w at_ ps) (hz : Zis w ps zs k) (hl : zs.length = r * c) (hr : r ≤ 64) (hc : c ≤ 64) :
  Calls Tryz.prog 30 #[.int .i64 (r : Int),.int .i64 (c : Int),at_] w (zTH w r c zs k) := by
 obtain ⟨W0,hW⟩ : ∃ W0,w.alloc mbox = W0 := ⟨_,rfl⟩
 obtain ⟨b0,sz0⟩ := alo1 w mbox;rw [hW] at b0 sz0;have PR := hid (zkB hW);have HE := hid (eachLeast_any (hA.now b0) (hz.now b0));have HS := hid (zoD (w := W0) hr hc);obtain ⟨a,cap,rfl,-,-,-,-⟩ := hA.form;have hm0 := zsB (i := r) (c := c) hr hc;have hpl : ps.length = r * c := by rw [hz.1,hl]
 rw [hpl] at HE ⊢;obtain ⟨n,hn⟩ : ∃ n,r * c = n := ⟨_,rfl⟩
 rw [hn] at hm0 HE ⊢;have hm2 := hm0;rw [IntKind.wrap_i64] at hm2;have q0 : ((n : Int) != (n : Int)) = false := by simp
 have G0 := hid b0;have EW := hid hW;have HL := hid hl;have HN := hid hn;have SZ := hid sz0;clear b0 sz0 hW hA hz hl hn hpl;go_enter Tryz.func30,Tryz.ntmps30;go_wp2_with fail;rw [EW.out];refine HS.out.mono ?_;rintro e w1 ⟨rfl,hw1⟩;have hw2 := hw1.symm;subst hw2;clear hw1 HS;go_wp2_with fail;refine HE.out.mono ?_;rintro e w2 ⟨u,qs,rfl,p1,p2,b⟩;have PR2 := hid (PR.out.step b);have G2 := hid (below_step G0.out b);obtain ⟨au,cu,rfl,-,-,-,-⟩ := p1.form;have hql : qs.length = n := by rw [p2.1,HL.out,HN.out]
 rw [hql] at p1 ⊢;have FIN : Hid (zTH w r c zs k (.returned (.tuple #[.agg #[.int .i64 (r : Int),.int .i64 (c : Int),.slice au n cu],.int .i64 0])) (put3 w2 w.heap.size (.int .i64 (r : Int)) (.int .i64 (c : Int)) (.slice au n cu))) :=
  ⟨_,rfl,⟨_,qs,rfl,(p1.put3 (by have := SZ.out;omega) _ _ _).mono (Nat.zero_le _),p2.wk (PR2.out.wk3 _ _ _),HL.out,hr,hc⟩,zTA G2.out (by omega) _ _ _⟩
 have PF := hid (PR2.out.put3 (.int .i64 (r : Int)) (.int .i64 (c : Int)) (.slice au n cu));have r0 := PR2.out.at (i := 0) rfl;have r1 := PR2.out.at (i := 1) rfl;have r2 := PR2.out.at (i := 2) rfl;have f0 := PR2.out.fz 0;have f1 := PR2.out.fz 1;have f2 := PR2.out.fz 2;clear HE p1 p2 b PR G0 G2 EW hql;go_wp2;exact bodyPost_ret (zMF Tryz.results30 PF.out _ (by rfl) (by rfl)) rfl FIN.out
end Go.Proofs.YtmnecbniappnaaaGreat
namespace Go.Proofs.YtmnecbniappnaaaGreat
def zG18 (m n : Nat) (F : Nat → Nat → Int) : List Int := (List.range (m * n)).map fun t => F (t / n) (t % n)
theorem zyA (m n : Nat) (F : Nat → Nat → Int) : (zG18 m n F).length = m * n := by simp [zG18]
theorem zgF {m n i j : Nat} (hi : i < m) (hj : j < n) : i * n + j < m * n := by
 have h := Nat.mul_le_mul_right n (show i + 1 ≤ m from hi);rw [Nat.succ_mul] at h;omega
theorem zfG {n i j : Nat} (hj : j < n) : (i * n + j) / n = i ∧ (i * n + j) % n = j := by
 have hn : 0 < n := by omega
 rw [Nat.mul_comm i n,Nat.mul_add_div hn,Nat.mul_add_mod,Nat.div_eq_of_lt hj,Nat.mod_eq_of_lt hj];exact ⟨by omega,rfl⟩
theorem zG18_at {m n i j : Nat} {F : Nat → Nat → Int} (hi : i < m) (hj : j < n) : (zG18 m n F).getD (i * n + j) 0 = F i j := by
 have h := zgF hi hj;have e := zfG (i := i) hj;simp [zG18,h,e.1,e.2]
theorem zHE {m n : Nat} {F G : Nat → Nat → Int} (h : ∀ i j,i < m → j < n → F i j = G i j) : zG18 m n F = zG18 m n G := List.map_congr_left fun t ht => by
 have ht' : t < m * n := by simpa using ht
 have hn : 0 < n := Nat.pos_of_ne_zero fun e => by subst e;simp at ht'
 exact h _ _ (Nat.div_lt_of_lt_mul (by rw [Nat.mul_comm];exact ht')) (Nat.mod_lt _ hn)
def en18 (n : Nat) (zs : List Int) : Nat → Nat → Int := fun i j => zs.getD (i * n + j) 0
theorem zhF {m n : Nat} {zs : List Int} (h : zs.length = m * n) : zG18 m n (en18 n zs) = zs := by
 refine List.ext_getElem (by rw [zyA,h]) fun t h1 h2 => ?_
 have ht : t < m * n := by rw [zyA] at h1;exact h1
 simp only [zG18,List.getElem_map,List.getElem_range,en18];rw [Nat.mul_comm (t / n) n,Nat.div_add_mod];simp [h2]
theorem zuD {m n i j : Nat} {F : Nat → Nat → Int} (hi : i < m) (hj : j < n) : en18 n (zG18 m n F) i j = F i j := zG18_at hi hj
end Go.Proofs.YtmnecbniappnaaaGreat
