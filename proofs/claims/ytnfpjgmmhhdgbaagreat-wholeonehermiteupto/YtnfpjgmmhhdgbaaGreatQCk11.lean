import Derived.Test.YtnfpjgmmhhdgbaaGreatQIn11ToFit11
set_option maxRecDepth 100000
set_option maxHeartbeats 6400000
set_option linter.unusedVariables false
set_option linter.unusedSimpArgs false
namespace Go.Proofs.YtnfpjgmmhhdgbaaGreat
open Go.RowKit
def Raws (w : World) (v : Value) (rs : List Rs) (k : Nat) : Prop :=
 ∃ a c,v = .slice a rs.length c ∧ rs.length ≤ 1048576 ∧ (rs = [] ∨ ∃ b off,a = some ⟨b,off,none⟩ ∧ b < w.heap.size ∧ ∀ j s,rs[j]? = some s → ∃ nv av lv cv,
  w.cell? ⟨b,off + j * 5,none⟩ = some (.int .i64 s.kind) ∧ w.cell? ⟨b,off + j * 5 + 1,none⟩ = some (.int .i64 s.i) ∧ w.cell? ⟨b,off + j * 5 + 2,none⟩ = some (.int .i64 s.j) ∧ w.cell? ⟨b,off + j * 5 + 3,none⟩ = some (.bool nv) ∧ w.cell? ⟨b,off + j * 5 + 4,none⟩ = some (.slice av lv cv) ∧
  Zi w (.agg #[.bool nv,.slice av lv cv]) s.z k)
theorem Raws.now {w w' : World} {v : Value} {rs : List Rs} {k : Nat} (h : Raws w v rs k) (hb : Below w.heap.size w w') : Raws w' v rs k := by
 obtain ⟨a,c,h1,h2,h3⟩ := h;refine ⟨a,c,h1,h2,?_⟩;rcases h3 with h3 | ⟨b,off,h4,h5,h6⟩
 ·exact .inl h3
 ·refine .inr ⟨b,off,h4,Nat.lt_of_lt_of_le h5 hb.size,fun j s hs => ?_⟩
  obtain ⟨nv,av,lv,cv,c0,c1,c2,c3,c4,hz⟩ := h6 j s hs;exact ⟨nv,av,lv,cv,cnow hb c0,cnow hb c1,cnow hb c2,cnow hb c3,cnow hb c4,hz.now hb⟩
theorem Raws.form {w : World} {v : Value} {rs : List Rs} {k : Nat} (h : Raws w v rs k) : ∃ a c,v = .slice a rs.length c ∧ rs.length ≤ 1048576 ∧ (0 < rs.length → ∃ b off,a = some ⟨b,off,none⟩) := by
 obtain ⟨a,c,h1,h2,h3⟩ := h;refine ⟨a,c,h1,h2,fun h0 => ?_⟩;rcases h3 with rfl | ⟨b,off,h4,_⟩
 ·simp at h0
 ·exact ⟨b,off,h4⟩
theorem Raws.at {w : World} {b off l c : Nat} {rs : List Rs} {k : Nat} (h : Raws w (.slice (some ⟨b,off,none⟩) l c) rs k) {j : Nat} {s : Rs} (hj : rs[j]? = some s) : ∃ nv av lv cv,
  w.cell? ⟨b,off + j * 5,none⟩ = some (.int .i64 s.kind) ∧ w.cell? ⟨b,off + j * 5 + 1,none⟩ = some (.int .i64 s.i) ∧ w.cell? ⟨b,off + j * 5 + 2,none⟩ = some (.int .i64 s.j) ∧ w.cell? ⟨b,off + j * 5 + 3,none⟩ = some (.bool nv) ∧ w.cell? ⟨b,off + j * 5 + 4,none⟩ = some (.slice av lv cv) ∧
  Zi w (.agg #[.bool nv,.slice av lv cv]) s.z k := by
 obtain ⟨a,c',h1,h2,h3⟩ := h;rcases h3 with rfl | ⟨b',off',h4,h5,h6⟩
 ·simp at hj
 ·simp only [Value.slice.injEq] at h1
  obtain ⟨rfl,-,-⟩ := h1;simp only [Option.some.injEq,Addr.mk.injEq,and_true] at h4;obtain ⟨rfl,rfl⟩ := h4;exact h6 j s hj
def zbD (w : World) (n : Nat) (rs : List Rs) (e : Ending) (w' : World) : Prop :=
 (((∀ s ∈ rs,s.fit n) ∧ e = .returned (.tuple #[.int .i64 (-1),.int .i64 0])) ∨ (∃ p : Nat,∃ s,rs[p]? = some s ∧ ¬ s.fit n ∧ (∀ j t,j < p → rs[j]? = some t → t.fit n) ∧ e = .returned (.tuple #[.int .i64 (p : Int),.int .i64 3]))) ∧ Below w.heap.size w w'
def zXG (w : World) (n : Nat) (rs : List Rs) (gk : Nat) (s : Value) (wx : World) : Prop := ∃ i : Nat,s = .int .i64 (i : Int) ∧ i ≤ rs.length ∧ gk = rs.length - i ∧ (∀ j t,j < i → rs[j]? = some t → t.fit n) ∧ Below w.heap.size w wx
theorem check11_any {w : World} {v : Value} {n : Nat} {rs : List Rs} {k : Nat} (h : Raws w v rs k) (hn : n ≤ 64) : Calls Tryz.prog 80 #[.int .i64 (n : Int),v] w (zbD w n rs) := by
 have R0 := hid h;obtain ⟨a,c,rfl,hl,hf⟩ := h.form;have F0 := hid hf;have n1 : ¬ ((n : Int) < 0) := by omega
 have n2 : ¬ ((64 : Int) < (n : Int)) := by omega
 have H0 : Hid (zXG w n rs rs.length (.int .i64 0) w) := ⟨0,rfl,Nat.zero_le _,by omega,fun j t hj => by omega,Below.refl _ _⟩
 obtain ⟨L,hL⟩ : ∃ L,rs.length = L := ⟨_,rfl⟩
 have HL := hid hL;rw [hL] at R0 hl F0 H0 ⊢;clear h hf hL;go_enter Tryz.func80,Tryz.ntmps80;go_wp2_with fail
 go_loopg [16] L (fun gk s16 wx => zXG w n rs gk s16 wx)
 case atStart => exact H0.out
 case round =>
  clear H0 n1 n2;obtain ⟨i,rfl,hin,hg,hfit,hG⟩ := hrel;rw [HL.out] at hin hg;have HF := hid hfit;have G := hid hG;have HG := hid hg;clear hfit hG hg
  by_cases hlt : i < L
  ·have hlt' : (i : Int) < (L : Int) := by omega
   obtain ⟨b1,o1,rfl⟩ := F0.out (by omega);obtain ⟨s,hs⟩ : ∃ s,rs[i]? = some s := ⟨_,List.getElem?_eq_getElem (by rw [HL.out];exact hlt)⟩
   obtain ⟨nv,av,lv,cv,c0,c1,c2,c3,c4,hz⟩ := (R0.out.now G.out).at hs;obtain ⟨V1,hV⟩ : ∃ V1,wr.alloc (stO s nv av lv cv) = V1 := ⟨_,rfl⟩
   obtain ⟨b,sz1⟩ := alo1 wr (stO s nv av lv cv);rw [hV] at b sz1;have P1 : Hid (Cel V1 wr.heap.size 127 [.int .i64 s.kind,.int .i64 s.i,.int .i64 s.j,.bool nv,.slice av lv cv]) := by unfold Hid;rw [← hV];exact Cel.new _ _ _
   have HI := hid (isFit_any (n := n) (hz.now b));have x0 := P1.out.at (i := 0) rfl;have x1 := P1.out.at (i := 1) rfl;have x2 := P1.out.at (i := 2) rfl;have x3 := P1.out.at (i := 3) rfl;have x4 := P1.out.at (i := 4) rfl;rw [← hV] at x0 x1 x2 x3 x4;have G0 := hid (below_step G.out b);have EV := hid hV;have HS := hid hs;have hw := zgA (i := i) (by omega);clear hz b sz1 hV P1 G hs;go_wp2_with fail;rw [EV.out];refine HI.out.mono ?_;rintro e w1 ⟨rfl,b⟩;have G1 := hid (below_step G0.out b)
   by_cases hf : s.fit n
   ·have e : decide (s.fit n) = true := decide_eq_true hf
    rw [e];have HN1 : Hid (zXG w n rs (L - (i + 1)) (.int .i64 ((i + 1 : Nat) : Int)) w1) := by
     refine ⟨i + 1,rfl,by rw [HL.out];omega,by rw [HL.out],fun j t hj ht => ?_,G1.out⟩
     by_cases q : j = i
     ·subst q;rw [HS.out,Option.some.injEq] at ht;subst ht;exact hf
     ·exact HF.out j t (by omega) ht
    have HMM : Hid (L - (i + 1) < gk) := by unfold Hid;rw [HG.out];omega
    clear HI G0 G1 HG b x0 x1 x2 x3 x4 EV c0 c1 c2 c3 c4 e hf HS HF;go_wp2_with fail;go_roundg (L - (i + 1))
    case rel => exact HN1.out
    case measure => exact HMM.out
   ·have e : decide (s.fit n) = false := decide_eq_false hf
    rw [e];have FIN : Hid (zbD w n rs (.returned (.tuple #[.int .i64 (i : Int),.int .i64 3])) w1) := ⟨.inr ⟨i,s,HS.out,hf,HF.out,rfl⟩,G1.out⟩
    clear HI G0 G1 HG b x0 x1 x2 x3 x4 EV c0 c1 c2 c3 c4 e hf HS HF;go_wp2;go_ret2;exact FIN.out
  ·have hlt' : ¬ (i : Int) < (L : Int) := by omega
   have FIN : Hid (zbD w n rs (.returned (.tuple #[.int .i64 (-1),.int .i64 0])) wr) := by
    refine ⟨.inl ⟨fun s hs => ?_,rfl⟩,G.out⟩;obtain ⟨j,hj,e⟩ := List.getElem_of_mem hs;exact HF.out j s (by have := HL.out;omega) (by rw [List.getElem?_eq_getElem hj,e])
   clear HF G HG;go_wp2;go_ret2;exact FIN.out
def Stl (B : Nat) (w : World) (v : Value) (rs : List Rs) (k : Nat) : Prop := ∃ vs,w.ownsRow B 90 1 v rs.length vs ∧ ∀ (j : Nat) (s : Rs) (u : Value),rs[j]? = some s → vs[j]? = some u → Ofd w u s k
theorem Ofd.now {w w' : World} {v : Value} {s : Rs} {k : Nat} (h : Ofd w v s k) (hb : Below w.heap.size w w') : Ofd w' v s k := by
 rcases h with h | h | ⟨h,nv,av,lv,cv,e,hz⟩ | h
 ·exact .inl h
 ·exact .inr (.inl h)
 ·exact .inr (.inr (.inl ⟨h,nv,av,lv,cv,e,hz.now hb⟩))
 ·exact .inr (.inr (.inr h))
theorem Ofd.ty {T : TypeId} {w w' : World} {v : Value} {s : Rs} {k : Nat} (h : Ofd w v s k) (ht : Ty T w w') (hT : 58 ≠ T) : Ofd w' v s k := by
 rcases h with h | h | ⟨h,nv,av,lv,cv,e,hz⟩ | h
 ·exact .inl h
 ·exact .inr (.inl h)
 ·exact .inr (.inr (.inl ⟨h,nv,av,lv,cv,e,hz.ty ht hT⟩))
 ·exact .inr (.inr (.inr h))
theorem Stl.now {B k : Nat} {w w' : World} {v : Value} {rs : List Rs} (h : Stl B w v rs k) (hb : Below w.heap.size w w') : Stl B w' v rs k := by
 obtain ⟨vs,h1,h2⟩ := h;exact ⟨vs,zMC h1 (fun b _ hlt => hb.block b hlt),fun j s u hs hu => (h2 j s u hs hu).now hb⟩
theorem Stl.form {B k : Nat} {w : World} {v : Value} {rs : List Rs} (h : Stl B w v rs k) : ∃ a c,v = .slice a rs.length c ∧ (0 < rs.length → ∃ g,a = some ⟨g,0,none⟩) := by
 obtain ⟨vs,⟨q1,⟨q2,q3⟩ | ⟨g,cap,cur,q2,q3,q4,q5,q6⟩⟩,h2⟩ := h
 ·exact ⟨none,0,by rw [q2,q3],fun h => by omega⟩
 ·exact ⟨_,cap,q2,fun _ => ⟨g,rfl⟩⟩
theorem Stl.at {B k g n c : Nat} {w : World} {rs : List Rs} (h : Stl B w (.slice (some ⟨g,0,none⟩) n c) rs k) {j : Nat} {s : Rs} (hs : rs[j]? = some s) : ∃ u,w.cell? ⟨g,j,none⟩ = some u ∧ Ofd w u s k := by
 obtain ⟨vs,h1,h2⟩ := h;have hj : j < rs.length := (List.getElem?_eq_some_iff.1 hs).1;have hn : n = rs.length := by
  obtain ⟨_,⟨q2,_⟩ | ⟨g',cap,cur,q2,_⟩⟩ := h1
  ·cases q2
  ·simp only [Value.slice.injEq] at q2;exact q2.2.1
 subst hn;have hvl : vs.length = rs.length := by simpa using h1.1
 have hv : vs[j]? = some (vs[j]'(by omega)) := List.getElem?_eq_getElem (by omega);exact ⟨_,by rw [h1.cellAt j (by omega)];exact hv,h2 j s _ hs hv⟩
theorem Tryz.infoS11 : (Tryz.prog.info? 90).map (fun i => (i.zero,i.size,i.bytes)) = some (some .nilIface,1,16) := by kernel_rfl
theorem Ofd.one {w : World} {v : Value} {s : Rs} {k : Nat} (h : Ofd w v s k) : v.oneCell' = true := by
 rcases h with ⟨_,rfl⟩ | ⟨_,rfl⟩ | ⟨_,_,_,_,_,rfl,_⟩ | ⟨_,rfl⟩ <;> rfl
theorem Ofd.iface {w : World} {v : Value} {s : Rs} {k n : Nat} (h : Ofd w v s k) (hf : s.fit n) : ∃ t x,v = .iface t x := by
 rcases h with ⟨_,rfl⟩ | ⟨_,rfl⟩ | ⟨_,_,_,_,_,rfl,_⟩ | ⟨h,rfl⟩
 ·exact ⟨_,_,rfl⟩
 ·exact ⟨_,_,rfl⟩
 ·exact ⟨_,_,rfl⟩
 ·unfold Rs.fit at hf;omega
theorem wpList_append_st (w : World) {ops : Array Oper} {rest : List Oper} {o : Oper} {a : Act} {Q : Exit → Act → World → Prop}
  (hgd : o.guard = none) (s x : Operand) (hop : o.op = .call { callee := .builtin .append,args := #[s,x],argTypes := #[83,83] })
  (B k : Nat) (v u : Value) (rs : List Rs) (r : Rs) (hs : a.eval s = v) (hB : Stl B w v rs k) (q : Nat) (hx : a.eval x = .slice (some ⟨q,0,none⟩) 1 1) (hc0 : w.cell? ⟨q,0,none⟩ = some u) (hu : Ofd w u r k) (hlen : rs.length ≤ 1048576) (hBs : B ≤ w.heap.size)
  (hK : ∀ g' l' cap' w',Hid (Stl B w' (.slice (some ⟨g',0,none⟩) l' cap') (rs ++ [r]) k) → Hid (w.grownBy w' v.ownBlock) → Hid (∀ b,v.ownBlock = some b → B ≤ b) → wpList Tryz.prog ops Q rest (a.put o.dst (.slice (some ⟨g',0,none⟩) l' cap')) w') :
  wpList Tryz.prog ops Q (o :: rest) a w := by
 obtain ⟨i,hii,hzz,hsz,hby⟩ := info_parts Tryz.infoS11;obtain ⟨vs,h1,h2⟩ := hB;have ea : ∀ j,(⟨q,0,none⟩ : Addr).add j = ⟨q,j,none⟩ := fun j => by unfold Addr.add;split <;> simp_all
 refine wpList_append_lies w hgd s x 83 hop B 90 i .nilIface 1 16 Tryz.underlying83 hii hzz hsz hby rfl (by omega) v rs.length vs hs h1 ⟨q,0,none⟩ 1 1 [u] hx rfl ?_ ?_ (by omega) (by unfold maxLen;omega) (by omega) hBs w.heap.size rfl ?_
 ·intro j u' hj
  match j,hj with
  | 0,hj => simp at hj;subst hj;rw [ea];exact hc0
 ·intro u' hu'
  simp at hu';subst hu';exact hu.one
 ·intro g' cap' w' k1 k2 k3 k4
  have ht := Ty.grown h1 k2;have hvl : vs.length = rs.length := by simpa using h1.1
  refine hK g' _ cap' w' ⟨vs ++ [u],by rw [List.length_append];exact k1,fun j s u' hs' hu' => ?_⟩ k2 (fun b hb => (h1.lt b hb).1)
  by_cases p : j < rs.length
  ·rw [List.getElem?_append_left p] at hs'
   rw [List.getElem?_append_left (by omega)] at hu';exact (h2 j s u' hs' hu').ty ht (by decide)
  ·have hj : j = rs.length := by have := (List.getElem?_eq_some_iff.1 hs').1;simp at this;omega
   subst hj;rw [List.getElem?_append_right (by omega),Nat.sub_self] at hs';rw [List.getElem?_append_right (by omega),hvl,Nat.sub_self] at hu';simp at hs' hu';subst hs' hu';exact hu.ty ht (by decide)
theorem wpList_make_st (w : World) {ops : Array Oper} {rest : List Oper} {o : Oper} {a : Act} {Q : Exit → Act → World → Prop}
  (hg : o.guard = none) (l c : Operand) (hop : o.op = Op.makeSlice 83 l c)
  (C : Int) (m : Nat) (hl : a.eval l = .int .i64 0) (hc : a.eval c = .int .i64 C) (hC : C = (m : Int)) (hm : m ≤ 2000000) (k : Nat)
  (hK : ∀ w',Hid (Stl w.heap.size w' (.slice (some ⟨w.heap.size,0,none⟩) 0 m) [] k) → Hid (Below w.heap.size w w') → wpList Tryz.prog ops Q rest (a.put o.dst (.slice (some ⟨w.heap.size,0,none⟩) 0 m)) w') :
  wpList Tryz.prog ops Q (o :: rest) a w := by
 refine wpList_plain hg fun K hK' => ?_
 obtain ⟨i,hi,hz,hs,hb⟩ := info_parts Tryz.infoS11;have hrun := run_make (P := Tryz.prog) w 83 90 i .nilIface Tryz.underlying83 hi hz .i64 .i64 0 m (by omega) (by omega) (by rw [hb];omega) (by omega);subst hC;rw [hs,Nat.mul_one,Int.toNat_natCast] at hrun;unfold Oper.wp;simp [execOp,hop,hl,hc,hrun,Result.andThen];refine hK' _ _ (hK _ ⟨[],World.ownsRow_made (base := w.heap.size) (size := 1) w _ _ (Nat.le_refl _) (by unfold maxLen;omega) ?_,fun j s u hs => by simp at hs⟩ ((Below.refl _ _).alloc (Nat.le_refl _) _));rw [size_madeCells]
 simp
def zTH (w : World) (B : Nat) (rs : List Rs) (k gk : Nat) (s8 s25 : Value) (wx : World) : Prop := ∃ i : Nat,s25 = .int .i64 (i : Int) ∧ i ≤ rs.length ∧ gk = rs.length - i ∧ Stl B wx s8 (rs.take i) k ∧ Below w.heap.size w wx ∧ B ≤ wx.heap.size
def zGF (w : World) (n : Nat) (rs : List Rs) (k : Nat) (e : Ending) (w' : World) : Prop :=
 (((∀ s ∈ rs,s.fit n) ∧ ∃ v,e = .returned (.tuple #[v,.int .i64 0]) ∧ Stl w.heap.size w' v rs k) ∨ (¬ (∀ s ∈ rs,s.fit n) ∧ e = .returned (.tuple #[.slice none 0 0,.int .i64 3]))) ∧ Below w.heap.size w w'
theorem inner_any {w : World} {v : Value} {n : Nat} {rs : List Rs} {k : Nat} (h : Raws w v rs k) (hn : n ≤ 64) : Calls Tryz.prog 39 #[.int .i64 (n : Int),v] w (zGF w n rs k) := by
 have R0 := hid h;have HC := hid (check11_any h hn);obtain ⟨a,c,rfl,hl,hf⟩ := h.form;have F0 := hid hf;obtain ⟨L,hL⟩ : ∃ L,rs.length = L := ⟨_,rfl⟩
 have HL := hid hL;rw [hL] at R0 hl F0 HC ⊢;clear h hf hL;go_enter Tryz.func39,Tryz.ntmps39;go_wp2_with fail;refine HC.out.mono ?_;rintro e w1 ⟨ho,b⟩;have G1 := hid b;clear b HC;rcases ho with ⟨hfit,rfl⟩ | ⟨p,s,hs,hnf,-,rfl⟩
 ·have HF := hid hfit
  clear hfit;go_wp2_with (at_make;refine wpList_make_st _ rfl _ _ rfl _ L rfl rfl rfl (by omega) k ?_)
  intro w2 hS hB;have H0 : Hid (zTH w w1.heap.size rs k L (.slice (some ⟨w1.heap.size,0,none⟩) 0 L) (.int .i64 0) w2) := ⟨0,rfl,Nat.zero_le _,by rw [HL.out];omega,by simpa using hS.out,below_step G1.out hB.out,hB.out.size⟩
  have HW1 : Hid (w.heap.size ≤ w1.heap.size) := G1.out.size;clear hS hB G1;go_wp2_with fail
  go_loopg [8,25] L (fun gk s8 s25 wx => zTH w w1.heap.size rs k gk s8 s25 wx)
  case atStart => exact H0.out
  case round =>
   clear H0;obtain ⟨i,rfl,hin,hg,hS,hG,hBs⟩ := hrel;rw [HL.out] at hin hg;have SS := hid hS;have G := hid hG;have HG := hid hg;have HB := hid hBs;obtain ⟨a8,c8,rfl,-⟩ := hS.form;clear hS hG hg hBs
   by_cases hlt : i < L
   ·have hlt' : (i : Int) < (L : Int) := by omega
    obtain ⟨b1,o1,rfl⟩ := F0.out (by omega);obtain ⟨s,hs⟩ : ∃ s,rs[i]? = some s := ⟨_,List.getElem?_eq_getElem (by rw [HL.out];exact hlt)⟩
    obtain ⟨nv,av,lv,cv,c0,c1,c2,c3,c4,hz⟩ := (R0.out.now G.out).at hs;obtain ⟨V1,hV⟩ : ∃ V1,wr.alloc (stO s nv av lv cv) = V1 := ⟨_,rfl⟩
    obtain ⟨b,sz1⟩ := alo1 wr (stO s nv av lv cv);rw [hV] at b sz1;have P1 : Hid (Cel V1 wr.heap.size 127 [.int .i64 s.kind,.int .i64 s.i,.int .i64 s.j,.bool nv,.slice av lv cv]) := by unfold Hid;rw [← hV];exact Cel.new _ _ _
    have HI := hid (ztG (hz.now b));have x0 := P1.out.at (i := 0) rfl;have x1 := P1.out.at (i := 1) rfl;have x2 := P1.out.at (i := 2) rfl;have x3 := P1.out.at (i := 3) rfl;have x4 := P1.out.at (i := 4) rfl;rw [← hV] at x0 x1 x2 x3 x4;have G0 := hid (below_step G.out b);have SS0 := hid (SS.out.now b);have HB0 := hid (Nat.le_trans HB.out b.size);have EV := hid hV;have HS := hid hs;have hw := zgA (i := i) (by omega);have HTK : Hid (rs.take i ++ [s] = rs.take (i + 1)) := by
     unfold Hid;obtain ⟨q1,q2⟩ := List.getElem?_eq_some_iff.1 hs;rw [List.take_succ_eq_append_getElem q1,q2]
    have HTL : Hid ((rs.take i).length ≤ 1048576) := by unfold Hid;rw [List.length_take];omega
    obtain ⟨lt,hlt2⟩ : ∃ lt,(rs.take i).length = lt := ⟨_,rfl⟩
    rw [hlt2] at SS0 ⊢;clear hlt2;clear hz b sz1 hV P1 G hs SS HB;go_wp2_with fail;rw [EV.out];refine HI.out.mono ?_;rintro e w3 ⟨u,rfl,hu,b⟩;obtain ⟨tu,xu,rfl⟩ := hu.iface (HF.out s (List.mem_of_getElem? HS.out));obtain ⟨V2,hV2⟩ : ∃ V2,w3.alloc (.cells #[.iface tu xu] 90) = V2 := ⟨_,rfl⟩
    obtain ⟨b2,sz2⟩ := alo1 w3 (.cells #[.iface tu xu] 90);rw [hV2] at b2 sz2;have C2 : Hid (V2.cell? ⟨w3.heap.size,0,none⟩ = some (.iface tu xu)) := by unfold Hid;rw [← hV2];exact (Cel.new w3 90 [.iface tu xu]).at (i := 0) rfl
    have hub := below_step b b2;have SS2 := hid (SS0.out.now hub);have G2 := hid (below_step G0.out hub);have HB2 := hid (Nat.le_trans HB0.out hub.size);have HU := hid (hu.now b2);have EV2 := hid hV2;clear HI SS0 G0 HB0 hub hu b b2 sz2 hV2 EV x0 x1 x2 x3 x4 c0 c1 c2 c3 c4;go_wp2_with (at_builtin;rw [EV2.out];refine wpList_append_st V2 rfl (.tmp 29) (.tmp 32) rfl w1.heap.size k _ (.iface tu xu) _ s rfl SS2.out w3.heap.size rfl C2.out HU.out HTL.out HB2.out ?_)
    intro g' l' cap' w4 hS hg hown;have HN1 : Hid (zTH w w1.heap.size rs k (L - (i + 1)) (.slice (some ⟨g',0,none⟩) l' cap') (.int .i64 ((i + 1 : Nat) : Int)) w4) := by
     refine ⟨i + 1,rfl,by rw [HL.out];omega,by rw [HL.out],by rw [← HTK.out];exact hS.out,?_,Nat.le_trans HB2.out hg.out.size⟩;exact G2.out.trans ⟨hg.out.os,hg.out.tape,hg.out.output,hg.out.size,fun b hb => hg.out.block b (Nat.lt_of_lt_of_le hb G2.out.size) (fun e => by have := hown.out b e.symm;have := HW1.out;omega)⟩
    have HMM : Hid (L - (i + 1) < gk) := by unfold Hid;rw [HG.out];omega
    clear hS hg hown SS2 G2 HB2 HU HG EV2 C2 HTK HTL;go_wp2_with fail;go_roundg (L - (i + 1))
    case rel => exact HN1.out
    case measure => exact HMM.out
   ·have hlt' : ¬ (i : Int) < (L : Int) := by omega
    obtain rfl : i = L := by omega
    have e : rs.take i = rs := List.take_of_length_le (by rw [HL.out];exact Nat.le_refl _);rw [e] at SS ⊢;rw [HL.out];have FIN : Hid (zGF w n rs k (.returned (.tuple #[.slice a8 i c8,.int .i64 0])) wr) := by
     have := SS.out;rw [HL.out] at this;obtain ⟨vs,q1,q2⟩ := this;exact ⟨.inl ⟨HF.out,_,rfl,vs,zvB q1 HW1.out,q2⟩,G.out⟩
    clear SS G HG HB e;go_wp2;go_ret2;exact FIN.out
 ·have FIN : Hid (zGF w n rs k (.returned (.tuple #[.slice none 0 0,.int .i64 3])) w1) := ⟨.inr ⟨fun q => hnf (q s (List.mem_of_getElem? hs)),rfl⟩,G1.out⟩
  clear hs hnf G1;go_wp2;go_ret2;exact FIN.out
end Go.Proofs.YtnfpjgmmhhdgbaaGreat
