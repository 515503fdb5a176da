import Derived.Test.YtnfpjgmmhhdgbaaGreatQEachM11ToLn11
set_option maxRecDepth 100000
set_option maxHeartbeats 6400000
set_option linter.unusedVariables false
set_option linter.unusedSimpArgs false
namespace Go.Proofs.YtnfpjgmmhhdgbaaGreat
open Go.RowKit Go.Shelf
attribute [local go_sem] Oper.semAt_some
def zrF (o : Oper) : Bool := match o.op with
 | .defer _ => false
 | _ => true
theorem zVF {ops : Array Oper} (h : ops.all zrF = true) : ∀ (i : Nat) (o : Oper),ops[i]? = some o → ∀ c,o.op ≠ .defer c := fun i o ho c e => by
 have hm := Array.mem_of_getElem? ho;have := (Array.all_eq_true_iff_forall_mem.1 h) o hm;unfold zrF at this;rw [e] at this;cases this
theorem zgC {P : Program} {l n : Nat} {ops : Array Oper} {Q : Exit → Act → World → Prop} (hL : ¬ LetsOut Q) :
  ∀ (os : List Oper) (a : Act) (w : World),(∀ o ∈ os,∀ c,o.op ≠ .defer c) → wpList P ops Q os a w → wpListIn (Fence.wide.inRound l) n P ops Q os a w
 | [],a,w,_,h => h
 | o :: rest,a,w,hno,h => by
  unfold wpList at h;unfold wpListIn
  by_cases hw : Region.wanted o (yielded ops a.tmps) = true
  ·rw [if_pos hw] at h ⊢
   rcases h with h | ⟨_,h⟩
   ·exact Oper.wpIn_mono (fun a w => zgC hL rest a w (fun o ho => hno o (by simp [ho]))) (op_round (hno o (by simp)) h)
   ·exact absurd h hL
  ·rw [if_neg hw] at h ⊢
   exact ⟨fun _ _ => trivial,zgC hL rest _ _ (fun o ho => hno o (by simp [ho])) h⟩
theorem zKC {P : Program} {l n id : Nat} {ops : Array Oper} {Q : Exit → Act → World → Prop} {a : Act} {w : World} (hno : ∀ (i : Nat) (o : Oper),ops[i]? = some o → ∀ c,o.op ≠ .defer c) (hL : ¬ LetsOut Q)
  (h : wpList P ops Q ops.toList a w) : (Code.region id ops false).wpIn (Fence.wide.inRound l) n P Q a w :=
 wpIn_region_list (zgC hL _ _ _ (fun o ho c => by
  obtain ⟨i,hi,e⟩ := List.getElem_of_mem ho;exact hno i o (by rw [← e];simp) c) h)
def Kc (X Y : World) : Prop := X.heap.size ≤ Y.heap.size ∧ ∀ (b : Nat) (o : Obj),X.heap[b]? = some o → o.isCells = true → Y.heap[b]? = some o
theorem zWB {W W' : World} {row : Option Nat} (hg : W.grownBy W' row) (hr : ∀ r,row = some r → ∃ o : Obj,W.heap[r]? = some o ∧ o.isCells = false) : Kc W W' := ⟨hg.size,fun b o h1 h2 => (grownBy_keeps_cells hg hr h1 h2).trans h1⟩
theorem Kc.cel {X Y : World} (h : Kc X Y) {b : Nat} {T : TypeId} {L : List Value} (d : Cel X b T L) : Cel Y b T L := h.2 b _ d rfl
theorem Kc.arr {X Y : World} (h : Kc X Y) {g : Nat} {ps : List (Value × Value)} (d : Arr X g ps) : Arr Y g ps := ⟨h.cel d.1,d.2⟩
theorem Zm.kc {B k : Nat} {w w' : World} {v : Value} {z : Int} (h : Zm B w v z k) (hk : Kc w w') : Zm B w' v z k := by
 obtain ⟨n1,zs,a,c,e,hm,rest⟩ := h;refine ⟨n1,zs,a,c,e,?_,rest⟩;obtain ⟨hw,h | ⟨g,r,cap,h1,h2,h3,h4,h5,h6⟩⟩ := hm
 ·exact ⟨hw,.inl h⟩
 ·exact ⟨hw,.inr ⟨g,r,cap,h1,h2,h3,h4,h5,hk.2 g _ h6 rfl⟩⟩
theorem Zms.kc {w w' : World} {ps : List (Value × Value)} {zs : List Int} {k : Nat} (h : Zms w ps zs k) (hk : Kc w w') : Zms w' ps zs k := ⟨h.1,fun j p z hp hz => (h.2 j p z hp hz).kc hk⟩
def ShtM (B : Nat) (w : World) (lv : Value) (c : Nat) (gs : List Nat) (m : List (List Int)) (k : Nat) : Prop :=
 w.ownsRow B 22 1 lv gs.length (gs.map (rowv c)) ∧ Ones gs ∧ gs.length = m.length ∧ (∀ g ∈ gs,B ≤ g) ∧ Wide c m ∧ ∀ (j g : Nat),gs[j]? = some g → ∃ ps,Arr w g ps ∧ Zms w ps (zHA m j) k
theorem ShtM.sht {B c k : Nat} {w : World} {lv : Value} {gs : List Nat} {m : List (List Int)} (h : ShtM B w lv c gs m k) : Sht B w lv c gs m k := by
 obtain ⟨h1,h2,h3,h4,h5,h6⟩ := h;refine ⟨h1,h2,h3,h4,h5,fun j g hg => ?_⟩;obtain ⟨ps,p1,p2⟩ := h6 j g hg;exact ⟨ps,p1,p2.zcs⟩
theorem ShtM.kc {B c k : Nat} {w w' : World} {lv : Value} {gs : List Nat} {m : List (List Int)} (h : ShtM B w lv c gs m k) (hk : Kc w w') : ShtM B w' lv c gs m k := by
 obtain ⟨h1,h2,h3,h4,h5,h6⟩ := h;refine ⟨?_,h2,h3,h4,h5,fun j g hg => ?_⟩
 ·obtain ⟨q1,q2 | ⟨g,cap,cur,q2,q3,q4,q5⟩⟩ := h1
  ·exact ⟨q1,.inl q2⟩
  ·exact ⟨q1,.inr ⟨g,cap,cur,q2,q3,hk.2 g _ q4 rfl,q5⟩⟩
 ·obtain ⟨ps,p1,p2⟩ := h6 j g hg
  exact ⟨ps,hk.arr p1,p2.kc hk⟩
theorem zUF {X Y : World} (h : Below X.heap.size X Y) : Kc X Y := ⟨h.size,fun b o e _ => (h.block b (Array.getElem?_eq_some_iff.1 e).1).trans e⟩
theorem ShtM.nil (B : Nat) (w : World) (c k : Nat) : ShtM B w (.slice none 0 0) c [] [] k := ⟨World.ownsRow_nil _ _ _ _,fun i j g h => by simp at h,rfl,fun g h => by simp at h,fun r h => by simp at h,fun j g h => by simp at h⟩
theorem ShtM.off {B c k b i : Nat} {T : TypeId} {L : List Value} {u : Value} {w : World} {lv : Value} {gs : List Nat} {m : List (List Int)} (h : ShtM B w lv c gs m k) (d : Cel w b T L) (h1 : T ≠ 22) (h2 : T ≠ 51) (h3 : T ≠ 58) : ShtM B (w.setCell ⟨b,i,none⟩ u) lv c gs m k := by
 obtain ⟨q1,q2,q3,q4,q5,q6⟩ := h;refine ⟨zMC q1 (fun g hg hlt => ?_),q2,q3,q4,q5,fun j g hg => ?_⟩
 ·refine Below.heap_setCell w _ u g (fun e => ?_)
  have e' : g = b := by simpa using e
  subst e';obtain ⟨_,⟨r2,_⟩ | ⟨g',cap,cur,r2,r3,r4,r5⟩⟩ := q1
  ·rw [r2] at hg;cases hg
  ·rw [r2] at hg
   simp only [Value.ownBlock,Option.some.injEq] at hg;subst hg;have := r4.symm.trans (show w.heap[_]? = _ from d);simp at this;exact h1 this.2.symm
 ·obtain ⟨ps,p1,p2⟩ := q6 j g hg
  have hne : b ≠ g := fun e => by
   subst e;have := (show w.heap[b]? = _ from p1.1).symm.trans (show w.heap[b]? = _ from d);simp at this;exact h2 this.2.symm
  exact ⟨ps,⟨p1.1.ne hne,p1.2⟩,p2.ty (Ty.set d) (fun e => h3 e.symm)⟩
theorem wpList_append_sht (w : World) {ops : Array Oper} {rest : List Oper} {o : Oper} {a : Act} {Q : Exit → Act → World → Prop}
  (hgd : o.guard = none) (s x : Operand) (hop : o.op = .call { callee := .builtin .append,args := #[s,x],argTypes := #[60,60] })
  (B c k : Nat) (v : Value) (gs : List Nat) (m : List (List Int)) (hs : a.eval s = v) (hB : ShtM B w v c gs m k) (q gx : Nat) (hx : a.eval x = .slice (some ⟨q,0,none⟩) 1 1) (hc0 : w.cell? ⟨q,0,none⟩ = some (.slice (some ⟨gx,0,none⟩) c c))
  (ps : List (Value × Value)) (zs : List Int) (hA : Arr w gx ps) (hz : Zms w ps zs k) (hzl : zs.length = c) (hgx : B ≤ gx) (hnew : ∀ g ∈ gs,g ≠ gx) (hlen : m.length < 64) (hBs : B ≤ w.heap.size)
  (hK : ∀ g' l' cap' w',Hid (ShtM B w' (.slice (some ⟨g',0,none⟩) l' cap') c (gs ++ [gx]) (m ++ [zs]) k) → Hid (w.grownBy w' v.ownBlock) → Hid (∀ b,v.ownBlock = some b → B ≤ b ∧ ∃ L,w.heap[b]? = some (.cells L 22 (0,0))) → wpList Tryz.prog ops Q rest (a.put o.dst (.slice (some ⟨g',0,none⟩) l' cap')) w') :
  wpList Tryz.prog ops Q (o :: rest) a w := by
 obtain ⟨i,hii,hzz,hsz,hby⟩ := info_parts Tryz.infoL9;obtain ⟨h1,h2,h3,h4,h5,h6⟩ := hB;have ea : ∀ j,(⟨q,0,none⟩ : Addr).add j = ⟨q,j,none⟩ := fun j => by unfold Addr.add;split <;> simp_all
 refine wpList_append_lies w hgd s x 60 hop B 22 i (.slice none 0 0) 1 24 Tryz.underlying60 hii hzz hsz hby rfl (by omega) v gs.length (gs.map (rowv c)) hs h1 ⟨q,0,none⟩ 1 1 [rowv c gx] hx rfl ?_ ?_ (by omega) (by unfold maxLen;omega) (by omega) hBs w.heap.size rfl ?_
 ·intro j u' hj
  match j,hj with
  | 0,hj => simp at hj;subst hj;rw [ea];exact hc0
 ·intro u' hu'
  simp at hu';subst hu'
  rfl
 ·intro g' cap' w' k1 k2 k3 k4
  have ht := Ty.grown h1 k2;have hown : ∀ b,v.ownBlock = some b → B ≤ b ∧ ∃ L,w.heap[b]? = some (.cells L 22 (0,0)) := fun b hb => by
   obtain ⟨_,⟨r2,_⟩ | ⟨g2,cap,cur,r2,r3,r4,r5⟩⟩ := h1
   ·rw [r2] at hb;cases hb
   ·rw [r2] at hb
    simp only [Value.ownBlock,Option.some.injEq] at hb;subst hb;exact ⟨r3,cur,r4⟩
  refine hK g' _ cap' w' ⟨by rw [List.length_append,List.map_append];exact k1,?_,by simp [h3],?_,?_,fun j g hg => ?_⟩ k2 hown
  ·intro s t g hs ht
   have hs1 := (List.getElem?_eq_some_iff.1 hs).1;have ht1 := (List.getElem?_eq_some_iff.1 ht).1;simp at hs1 ht1
   by_cases p1 : s < gs.length
   ·rw [List.getElem?_append_left p1] at hs
    by_cases p2 : t < gs.length
    ·rw [List.getElem?_append_left p2] at ht
     exact h2 s t g hs ht
    ·rw [List.getElem?_append_right (by omega)] at ht
     have : t - gs.length = 0 := by omega
     rw [this] at ht;simp at ht;exact absurd ht.symm (hnew g (List.mem_of_getElem? hs))
   ·by_cases p2 : t < gs.length
    ·rw [List.getElem?_append_left p2] at ht
     rw [List.getElem?_append_right (by omega)] at hs;have : s - gs.length = 0 := by omega
     rw [this] at hs;simp at hs;exact absurd hs.symm (hnew g (List.mem_of_getElem? ht))
    ·omega
  ·intro g hg
   rcases List.mem_append.1 hg with r | r
   ·exact h4 g r
   ·simp at r;subst r;exact hgx
  ·intro r hr
   rcases List.mem_append.1 hr with q' | q'
   ·exact h5 r q'
   ·simp at q';subst q';exact hzl
  ·have carry : ∀ g ps',Arr w g ps' → Arr w' g ps' := fun g ps' hA' => ⟨ht.2 g _ _ _ hA'.1 (by decide),hA'.2⟩
   by_cases p : j < gs.length
   ·rw [List.getElem?_append_left p] at hg
    obtain ⟨ps',r1,r2⟩ := h6 j g hg;have e : zHA (m ++ [zs]) j = zHA m j := by simp [zHA,List.getElem?_append_left (show j < m.length by omega)]
    rw [e];exact ⟨ps',carry _ _ r1,r2.ty ht (by decide)⟩
   ·have hj : j = gs.length := by have := (List.getElem?_eq_some_iff.1 hg).1;simp at this;omega
    subst hj;simp at hg;subst hg;have e : zHA (m ++ [zs]) gs.length = zs := by simp [zHA,h3]
    rw [e];exact ⟨ps,carry _ _ hA,hz.ty ht (by decide)⟩
def ShJ (w : World) (Br Bw c k : Nat) (m : List (List Int)) (s : Nat × List Nat) (W : World) : Prop :=
 ∃ a n q,Cel W Bw 87 [.int .i64 (c : Int),.slice a n q] ∧ Cel W Br 87 [.int .i64 0,.slice none 0 0] ∧ ShtM s.1 W (.slice a n q) c s.2 (m.take s.2.length) k ∧ s.2.length ≤ m.length ∧ Below w.heap.size w W ∧ w.heap.size ≤ s.1
theorem ShJ.own {w : World} {Br Bw c k B : Nat} {m : List (List Int)} (hB : w.heap.size ≤ B) : OwnFrom B (ShJ w Br Bw c k m) := fun s W W' row hs hg hr => by
 obtain ⟨a,n,q,h1,h2,h3,h4,h5,h6⟩ := hs;have hk := zWB hg (fun r e => (hr r e).2);exact ⟨a,n,q,hk.cel h1,hk.cel h2,h3.kc hk,h4,h5.grown hg h5.size (fun k e => Nat.le_trans hB (hr k e).1),h6⟩
theorem AtL.own {k B : Nat} {m : List (List Int)} (s : Nat × List Nat) (x : Nat × Nat) : OwnFrom B (fun (_ : Unit) W => AtL k m s x W) := fun _ W W' row hs hg hr => by
 obtain ⟨h1,h2,h3,h4,h5,ps,h6,h7⟩ := hs;have hk := zWB hg (fun r e => (hr r e).2);exact ⟨h1,h2,h3,Nat.le_trans h4 hg.size,h5,ps,hk.arr h6,h7.kc hk⟩
theorem ShtM.lt {B c k : Nat} {w : World} {lv : Value} {gs : List Nat} {m : List (List Int)} (h : ShtM B w lv c gs m k) : ∀ g ∈ gs,g < w.heap.size := fun g hg => by
 obtain ⟨j,hj,e⟩ := List.getElem_of_mem hg;obtain ⟨ps,p1,_⟩ := h.2.2.2.2.2 j g (by rw [List.getElem?_eq_getElem hj,e]);exact p1.1.blk
theorem zvB {w : World} {B B' : Nat} {e : TypeId} {size : Nat} {v : Value} {n : Nat} {xs : List Value} (h : w.ownsRow B e size v n xs) (hb : B' ≤ B) : w.ownsRow B' e size v n xs := by
 obtain ⟨q1,q2 | ⟨g,cap,cur,q2,q3,q4⟩⟩ := h
 ·exact ⟨q1,.inl q2⟩
 ·exact ⟨q1,.inr ⟨g,cap,cur,q2,Nat.le_trans hb q3,q4⟩⟩
theorem sback11 {f : Func} {s : Nat} (hr : f.results = #[ResultVar.cell s 87]) {W : World} {b : Nat} {x0 x1 : Value} (h : Cel W b 87 [x0,x1]) (tmps : Array Value) (ht : tmps[s]? = some (.pointer (some ⟨b,0,none⟩))) :
  (results f tmps).run Tryz.prog W = .ok (.agg #[x0,x1]) W := by
 simp [results,hr,go_sem,ht,h.at (i := 0) rfl,h.at (i := 1) rfl]
def zLG (w : World) (c : Nat) (m : List (List Int)) (k : Nat) (e : Ending) (w' : World) : Prop := ∃ lv gs,e = .returned (.agg #[.int .i64 (c : Int),lv]) ∧ Sht w.heap.size w' lv c gs m k ∧ Below w.heap.size w w'
theorem sheetOf_any {w : World} {v : Value} {r c : Nat} {zs : List Int} {k : Nat} (h : Mx w v r c zs k) : Calls Tryz.prog 40 #[v] w (zLG w c (rowsL r c zs) k) := by
 have M0 := hid h;refine (callsIn_wide (n := 5)).1 ?_;obtain ⟨aa,ca,rfl,hr,hc⟩ := h.form;have HZL : Hid (zs.length = r * c) := by obtain ⟨_,_,_,_,_,h,_⟩ := h;exact h
 obtain ⟨la,hla⟩ : ∃ la,r * c = la := ⟨_,rfl⟩
 rw [hla] at M0 ⊢;obtain ⟨W0,hW⟩ : ∃ W0,((w.alloc (matO r c (.slice aa la ca))).alloc (.cells #[.int .i64 0,.slice none 0 0] 87)).alloc (.cells #[.int .i64 (c : Int),.slice none 0 0] 87) = W0 := ⟨_,rfl⟩
 obtain ⟨b0,sz0⟩ := zWC w (matO r c (.slice aa la ca)) (.cells #[.int .i64 0,.slice none 0 0] 87) (.cells #[.int .i64 (c : Int),.slice none 0 0] 87);rw [hW] at b0 sz0;have pa : Cel W0 w.heap.size 24 (matc r c (.slice aa la ca)) := by
  rw [← hW];exact ((Cel.new w 24 (matc r c (.slice aa la ca))).step ((Below.refl _ _).alloc (Nat.le_refl _) _)).step ((Below.refl _ _).alloc (Nat.le_refl _) _)
 have PR : Hid (Cel W0 (w.heap.size + 1) 87 [.int .i64 0,.slice none 0 0]) := by
  unfold Hid;rw [← hW];have := (Cel.new (w.alloc (matO r c (.slice aa la ca))) 87 [.int .i64 0,.slice none 0 0]).step ((Below.refl _ _).alloc (Nat.le_refl _) (.cells #[.int .i64 (c : Int),.slice none 0 0] 87))
  simpa using this
 have PW : Hid (Cel W0 (w.heap.size + 1 + 1) 87 [.int .i64 (c : Int),.slice none 0 0]) := by
  unfold Hid;rw [← hW];have := Cel.new ((w.alloc (matO r c (.slice aa la ca))).alloc (.cells #[.int .i64 0,.slice none 0 0] 87)) 87 [.int .i64 (c : Int),.slice none 0 0]
  simpa using this
 have HLI := hid (zeE (M0.out.now b0));have x0 := pa.at (i := 0) rfl;have x1 := pa.at (i := 1) rfl;have x2 := pa.at (i := 2) rfl;rw [← hW] at x0 x1 x2;have G0 := hid b0;have EW := hid hW;have SZ := hid sz0;clear h hla b0 sz0 hW pa M0;refine callsIn_of_wp_marks Tryz.func40 rfl trivial ?_ rfl;simp only [Tryz.ntmps40,List.size_toArray,List.length_cons,List.length_nil,Nat.reduceAdd,Nat.reduceSub,Array.replicate_succ,Array.replicate_zero,List.push_toArray,List.append_toArray,List.nil_append,List.cons_append];gi_wp2_with fail;rw [EW.out];clear EW;refine ⟨trivial,(callsIn_wide.2 HLI.out).mono ?_⟩;rintro e w1 ⟨Bs,ga,ps,rfl,q1,q2,q3,q4,q5,b⟩;have HQ3 := hid q3;have HQ5 := hid q5;have HB1 := hid b;have HQ1 := hid q1;have G1 := hid (below_step G0.out b);replace PR := hid (PR.out.step b);replace PW := hid (PW.out.step b);have hs1 := b.size;have hsz := SZ.out;clear q1 q3 q5 b x0 x1 x2 HLI G0;gi_wp2_with fail;have hml : (rowsL r c zs).length = r := zbA;refine zsG (σ := Nat × List Nat) (α := Nat × Nat) (by decide) rfl (enters_of Tryz.func96 (by kernel_rfl) rfl) (encL c) (fun _ => rfl)
  (ShJ w (w.heap.size + 1) (w.heap.size + 1 + 1) c k (rowsL r c zs)) (ShJ.own (by omega)) (AtL k (rowsL r c zs)) (fun s x => AtL.own s x) (fun s x => (s.1,s.2 ++ [x.2]))
  (fun s => KpL (· = w.heap.size + 1 + 1) s.1) (fun h h' => h.trans h') (fun s W l o o' _ h1 h2 => KpL.put h1 h2) (fun s => s.2 = [] ∧ w.heap.size ≤ s.1) (fun s => s.2.length = r) ?ini ?it (fun x => { tmps := #[matv r c (.slice aa la ca),.pointer (some ⟨w.heap.size,0,none⟩),.pointer (some ⟨w.heap.size + 1,0,none⟩),.pointer (some ⟨w.heap.size + 1 + 1,0,none⟩),undef,.slice (some ⟨x.2,0,none⟩) c c,.pointer (some ⟨w.heap.size,1,none⟩),.int .i64 (c : Int),.agg #[.int .i64 (c : Int),.slice none 0 0],.agg #[.int .i64 (r : Int),.int .i64 (c : Int),.slice aa la ca],.func (.func 96) #[] #[.pointer (some ⟨Bs,0,none⟩)],.int .i64 (x.1 : Int),.slice (some ⟨x.2,0,none⟩) c c,undef,undef,undef,undef,undef,undef,undef],defers := [] }) ?assign ?body ?done
 case ini =>
  rintro ⟨B,gs⟩ ⟨rfl,hB⟩;exact ⟨_,_,_,PW.out,PR.out,ShtM.nil _ _ _ _,Nat.zero_le _,G1.out,hB⟩
 case it =>
  intro l J' W hW hJ hJb hJ0 hY;have c1 : Cel W Bs 24 (matc r c (.slice (some ⟨ga,0,none⟩) (r * c) (r * c))) := HQ1.out.step hW;have ar := HQ3.out.step hW;have zr := HQ5.out.now hW;have hrc : r * c ≤ 64 * 64 := Nat.mul_le_mul hr hc;have pr : Prs (w.heap.size + 1 + 1 + 1) W (.slice (some ⟨ga,0,none⟩) (r * c) (r * c)) ps := by
   have := ar.prs (B := w.heap.size + 1 + 1 + 1) (by omega) (by omega) (cap := r * c) (by omega);rw [q4] at this;exact this
  refine (zfE (by decide) J' c1 pr q4 zr.zis hr hc hJb (fun B hB => hJ0 _ ⟨rfl,Nat.le_trans (Nat.le_trans G1.out.size hW.size) hB⟩) (fun s A h => by
   obtain ⟨_,_,_,_,_,h3,_⟩ := hJ s A h;exact h3.lt) (by have := hW.size;omega) (fun b off x hs e => ?_) (fun b hs => Nat.le_of_eq hs) (fun s x X h1 h2 _ => hY s x X h1 h2)).mono (fun e Y h => h)
  have hs' : b = w.heap.size + 1 + 1 := hs;subst hs';have d := PW.out.step hW
  match off,e with
  | 0,e => rw [d.at (i := 0) rfl] at e;simp at e
  | 1,e => rw [d.at (i := 1) rfl] at e;simp at e
  | off + 2,e => simp [World.cell?,show W.heap[w.heap.size + 1 + 1]? = _ from d] at e
 case assign =>
  intro l x W K hK;have HKK := hid hK;clear hK;gi_wp2;exact HKK.out
 case body =>
  rintro l ⟨B,gs⟩ ⟨t,gx⟩ W ⟨a,n,q,h1,h2,h3,h4,h5,h6⟩ ⟨k1,k2,k3,k4,k5,ps',k6,k7⟩;dsimp only at k1 k2 k3 k4 k5 k6 k7 h3 h4 h6 ⊢;obtain ⟨V,hV⟩ : ∃ V,W.alloc (.cells #[.slice (some ⟨gx,0,none⟩) c c] 22) = V := ⟨_,rfl⟩
  obtain ⟨bv,szv⟩ := alo1 W (.cells #[.slice (some ⟨gx,0,none⟩) c c] 22);rw [hV] at bv szv;have cv : V.cell? ⟨W.heap.size,0,none⟩ = some (.slice (some ⟨gx,0,none⟩) c c) := by rw [← hV];exact (Cel.new W 22 [.slice (some ⟨gx,0,none⟩) c c]).at (i := 0) rfl
  have CV := hid cv;have kv := zUF bv;have X1 := hid (h1.step bv);have X2 := hid (h2.step bv);have S3 := hid (h3.kc kv);have B5 := hid (below_step h5 bv);have A6 := hid (k6.step bv);have Z7 := hid (k7.now bv);have BV := hid bv;have HB6 := hid h6;have hzl : (zHA (rowsL r c zs) gs.length).length = c := (zIC HZL.out).at k2;have y1 := h1.at (i := 1) rfl;have EV := hid hV;have HK4 : Hid (B ≤ V.heap.size) := Nat.le_trans k4 bv.size;have HTL : Hid ((List.take gs.length (rowsL r c zs)).length < 64) := by unfold Hid;rw [List.length_take];omega
  have HTS : Hid (List.take gs.length (rowsL r c zs) ++ [zHA (rowsL r c zs) gs.length] = List.take (gs ++ [gx]).length (rowsL r c zs)) := by
   unfold Hid;rw [List.length_append,List.length_singleton,List.take_succ_eq_append_getElem k2];simp [zHA,k2]
  have HK5 := hid k5;refine wpIn_block (zKC (zVF (by kernel_rfl)) (by rintro ⟨a,w,h⟩;cases h.1) ?_);clear h1 h2 h3 h5 h6 k5 k6 k7 kv bv szv hV cv;dsimp only;go_wp2_with (at_builtin;rw [EV.out];refine wpList_append_sht V rfl (.tmp 14) (.tmp 16) rfl B c k _ gs _ rfl S3.out W.heap.size gx rfl CV.out ps' _ A6.out Z7.out hzl k3 HK5.out HTL.out HK4.out ?_)
  intro g' l' cap' w3 hS hg hown;have kcv : ∀ (b : Nat) (T : TypeId) (L : List Value),Cel V b T L → T ≠ 22 → Cel w3 b T L := fun b T L d hT => by
   refine (hg.out.block b d.blk (fun e => ?_)).trans d;obtain ⟨_,L',q'⟩ := hown.out b e.symm;have := q'.symm.trans (show V.heap[b]? = _ from d);simp at this;exact hT this.2.symm
  have Y1 := hid (kcv _ _ _ X1.out (by decide));have Y2 := hid (kcv _ _ _ X2.out (by decide));have y0 := Y1.out.at (i := 1) rfl;have f0 := Y1.out.fz 1;obtain ⟨U,hU⟩ : ∃ U,w3.setCell ⟨w.heap.size + 1 + 1,1,none⟩ (.slice (some ⟨g',0,none⟩) l' cap') = U := ⟨_,rfl⟩
  have FJ : Hid (ShJ w (w.heap.size + 1) (w.heap.size + 1 + 1) c k (rowsL r c zs) (B,gs ++ [gx]) U) := by
   unfold Hid;rw [← hU];refine ⟨_,_,_,Y1.out.set 1 _,Y2.out.ne (by omega),?_,by rw [List.length_append];simp;omega,bset ?_ (by omega),HB6.out⟩
   ·have := hS.out.off (i := 1) (u := .slice (some ⟨g',0,none⟩) l' cap') Y1.out (by decide) (by decide) (by decide)
    rw [HTS.out] at this;exact this
   ·exact B5.out.trans ⟨hg.out.os,hg.out.tape,hg.out.output,hg.out.size,fun b hb => hg.out.block b (Nat.lt_of_lt_of_le hb B5.out.size) (fun e => by have := (hown.out b e.symm).1;have := HB6.out;omega)⟩
  have FK : Hid (KeepsFrom w1.heap.size W U) := by
   unfold Hid;rw [← hU];refine ⟨by simp;exact Nat.le_trans BV.out.size hg.out.size,fun j o hj e ho => ?_⟩;have e1 := (BV.out.block j (Array.getElem?_eq_some_iff.1 e).1).trans e;have e2 := (hg.out.block j (Array.getElem?_eq_some_iff.1 e1).1 (fun q' => by
    obtain ⟨_,L',q''⟩ := hown.out j q'.symm;rw [e1,Option.some.injEq] at q'';subst q'';cases ho)).trans e1
   refine (Below.heap_setCell w3 _ _ j (fun q' => ?_)).trans e2;have q'' : j = w.heap.size + 1 + 1 := by simpa using q'
   subst q'';have := e2.symm.trans (show w3.heap[_]? = _ from Y1.out);rw [Option.some.injEq] at this;subst this;cases ho
  have FP : Hid (KpL (· = w.heap.size + 1 + 1) B W U) := by
   unfold Hid;rw [← hU];refine ⟨by simp;exact Nat.le_trans BV.out.size hg.out.size,fun j o hj hne e ho => ?_⟩;have e1 := (BV.out.block j (Array.getElem?_eq_some_iff.1 e).1).trans e;have e2 := (hg.out.block j (Array.getElem?_eq_some_iff.1 e1).1 (fun q' => by have := (hown.out j q'.symm).1;omega)).trans e1;exact (Below.heap_setCell w3 _ _ j (fun q' => hne (by simpa using q'))).trans e2
  have EU := hid hU;clear hU hS hg hown kcv X1 X2 S3 B5 A6 Z7 BV CV HTS HTL HK4 HK5 EV y1;go_wp2;rw [EU.out];exact ⟨trivial,FK.out,FJ.out,FP.out⟩
 case done =>
  rintro D ⟨B,gs⟩ W hDs hl ⟨a,n,q,h1,h2,h3,h4,h5,h6⟩ hD;dsimp only at hl h3 h6;have x0 := h1.at (i := 0) rfl;have x1 := h1.at (i := 1) rfl;have r0 := h2.at (i := 0) rfl;have r1 := h2.at (i := 1) rfl;have f0 := h2.fz 0;have f1 := h2.fz 1;obtain ⟨U,hU⟩ : ∃ U,(W.setCell ⟨w.heap.size + 1,0,none⟩ (.int .i64 (c : Int))).setCell ⟨w.heap.size + 1,1,none⟩ (.slice a n q) = U := ⟨_,rfl⟩
  have hK1 : U.heap[D]? = some (.deferred (some [])) := by
   rw [← hU];exact ((KeepsOthers.setCell W ⟨w.heap.size + 1,0,none⟩ (.int .i64 (c : Int))).trans (KeepsOthers.setCell _ ⟨w.heap.size + 1,1,none⟩ (.slice a n q))).same D _ hD rfl
  have d2 : Cel U (w.heap.size + 1) 87 [.int .i64 (c : Int),.slice a n q] := by rw [← hU];exact (h2.set 0 _).set 1 _
  have s2 : ShtM B U (.slice a n q) c gs (List.take gs.length (rowsL r c zs)) k := by rw [← hU];exact (h3.off h2 (by decide) (by decide) (by decide)).off (h2.set 0 _) (by decide) (by decide) (by decide)
  have b2 : Below w.heap.size w U := by rw [← hU];exact bset (bset h5 (by omega)) (by omega)
  have kg := zWB (grownBy_putObj' U D (.deferred none)) (fun r e => by cases e;exact ⟨_,hK1,rfl⟩);have PP := hid (kg.cel d2);have BB := b2.trans (belowK_b (w := w) (Nat.le_refl _) _ D _ (.deferred none) (by have := G1.out.size;omega) hK1 rfl rfl);have HZ : Hid (zLG w c (rowsL r c zs) k (.returned (.agg #[.int .i64 (c : Int),.slice a n q])) (U.putObj D (.deferred none))) := by
   have s3 := (s2.kc kg).sht;rw [hl,List.take_of_length_le (by omega)] at s3;obtain ⟨z1,z2,z3,z4,z5,z6⟩ := s3;exact ⟨_,gs,rfl,⟨zvB z1 h6,z2,z3,fun g hg => Nat.le_trans h6 (z4 g hg),z5,z6⟩,BB⟩
  have HK := hid hK1;have EU := hid hU;clear h1 h2 h3 h4 h5 hU hK1 d2 s2 b2 kg BB hD;gi_wp2;rw [EU.out];refine ⟨by simp,.inl ⟨_,_,rfl,run_takeDeferred HK.out,?_⟩⟩;exact ⟨_,sback11 Tryz.results40 PP.out _ (by rfl),HZ.out⟩
end Go.Proofs.YtnfpjgmmhhdgbaaGreat
