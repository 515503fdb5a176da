import Derived.Test.YtkdobgbicnemcaaGreatDoorQAlikeToShift
import Derived.Test.YtkdobgbicnemcaaGreatDoorQFil9ToDot9
import Derived.Test.YtkdobgbicnemcaaGreatDoorQRt5
set_option maxRecDepth 100000
set_option maxHeartbeats 6400000
set_option linter.unusedVariables false
set_option linter.unusedSimpArgs false
namespace Go.Proofs.YtkdobgbicnemcaaGreatDoor
open Go.RowKit
theorem run_append_any (w : World) (ty : TypeId) (g : Nat) {B : Nat} {v : Value} {xs : List Int} (hsl : Sl B w v xs) (hmx : xs.length ≤ 17592186044416) :
  ∃ v' w',(Builtin.append_ #[24,24] ty #[.slice (some ⟨g,0,none⟩) 0 0,v]).run Tryz.prog w = .ok v' w' ∧ Far w.heap.size w' v' xs ∧ Below w.heap.size w w' := by
 have h0 := hsl;obtain ⟨hw,ad,cap,rfl,hlc,hcm,hm⟩ := hsl;cases ad with
 | some ad => exact run_append_empty w ty g h0 (.inr ⟨_,_,_,rfl⟩) hmx
 | none =>
  obtain rfl : xs = [] := by
   rcases hm with e | ⟨b,off,e,_⟩
   ·exact e
   ·cases e
  obtain ⟨i,hi,hz,hsz,hb⟩ := info_parts Tryz.infoW;refine ⟨.slice (some ⟨g,0,none⟩) 0 0,w,?_,⟨WF.nil,.inr ⟨_,_,_,rfl⟩,_,0,rfl,Nat.le_refl _,Nat.zero_le _,.inl rfl⟩,Below.refl _ _⟩;simp [Builtin.append_,run_underlying Tryz.underlying24,sizeOf,typeInfo,hi,Builtin.lenOf,Builtin.firstCells,storeCells]
theorem step_append_any {ops : Array Oper} {o : Oper} {a : Act} {w : World} {K : Act → World → Prop} {Q : Exit → Act → World → Prop} {E : Prop} (hgd : o.guard = none) (s x : Operand)
  (hop : o.op = Op.call { callee := Callee.builtin Builtin.append,args := #[s,x],argTypes := #[24,24] })
  (g : Nat) (v : Value) (xs : List Int) (hs : a.eval s = .slice (some ⟨g,0,none⟩) 0 0) (hx : a.eval x = v) (hsl : Sl w.heap.size w v xs) (hmx : xs.length ≤ 17592186044416)
  (hK : ∀ v' w',Hid (Far w.heap.size w' v' xs) → Hid (Below w.heap.size w w') → K (a.put o.dst v') w') :
  if Region.wanted o (yielded ops a.tmps) = true then Oper.wp Tryz.prog o a w K Q else E := by
 have hw : Region.wanted o (yielded ops a.tmps) = true := by simp [Region.wanted,hgd]
 rw [if_pos hw];obtain ⟨v',w',hr,h1,h2⟩ := run_append_any w o.type g hsl hmx;unfold Oper.wp execOp;simp only [hop,resolve,invoke,builtin,Sem.run_bind,Sem.run_pure,Result.andThen_ok,List.map_toArray,List.map_cons,List.map_nil,hs,hx,hr];exact hK v' w' h1 h2
def zOI (w : World) (z : Int) (k : Nat) (e : Ending) (w' : World) : Prop := ∃ r,e = .returned r ∧ Zi w' r z k ∧ Below w.heap.size w w'
theorem Zi.parts5 {w : World} {v : Value} {z : Int} {k : Nat} (h : Zi w v z k) : ∃ n,∃ xs : List Int,∃ a c,v = .agg #[.bool n,.slice a xs.length c] := by
 obtain ⟨n,xs,a,c,e,-⟩ := h;exact ⟨n,xs,a,c,e⟩
def FilI (wx : World) (g n i : Nat) (F : Nat → Int) (k : Nat) : Prop := ∃ ps,Arr wx g ps ∧ ps.length = n ∧ ∀ (j : Nat) (p : Value × Value),j < i → ps[j]? = some p → Zi wx (.agg #[p.1,p.2]) (F j) k
theorem FilI.start {w : World} {g n : Nat} (h : Arr w g (List.replicate n zaH)) (F : Nat → Int) (k : Nat) : FilI w g n 0 F k := ⟨_,h,by simp,fun j p hj => by omega⟩
theorem FilI.step {w w' : World} {g n i : Nat} {F : Nat → Int} {k : Nat} (h : FilI w g n i F k) (hb : Below w.heap.size w w') : FilI w' g n i F k := by
 obtain ⟨ps,h1,h2,h3⟩ := h;exact ⟨ps,h1.step hb,h2,fun j p hj hp => (h3 j p hj hp).now hb⟩
theorem FilI.put {w : World} {g n i : Nat} {F : Nat → Int} {k : Nat} {x y : Value} (h : FilI w g n i F k) (hi : i < n) (hz : Zi w (.agg #[x,y]) (F i) k) : FilI ((w.setCell ⟨g,i * 2,none⟩ x).setCell ⟨g,i * 2 + 1,none⟩ y) g n (i + 1) F k := by
 obtain ⟨ps,h1,h2,h3⟩ := h;have hw := h1.wk (i := i) (by omega) x y;refine ⟨ps.set i (x,y),h1.put (by omega) hz.isI,by simpa using h2,fun j p hj hp => ?_⟩
 by_cases q : j = i
 ·subst q
  rw [List.getElem?_set_self (by omega),Option.some.injEq] at hp;subst hp;exact hz.wk hw
 ·rw [List.getElem?_set_ne (by omega)] at hp
  exact (h3 j p (by omega) hp).wk hw
theorem FilI.cells {w : World} {g n i j : Nat} {F : Nat → Int} {k : Nat} (h : FilI w g n i F k) (hj : j < n) : ∃ m a l c,w.cell? ⟨g,j * 2,none⟩ = some (.bool m) ∧ w.cell? ⟨g,j * 2 + 1,none⟩ = some (.slice a l c) ∧ w.frozen? ⟨g,j * 2,none⟩ = false ∧ w.frozen? ⟨g,j * 2 + 1,none⟩ = false := by
 obtain ⟨ps,h1,h2,h3⟩ := h;have hp : ps[j]? = some (ps[j]'(by omega)) := List.getElem?_eq_getElem (by omega);obtain ⟨m,a,l,c,e⟩ := h1.2 _ (List.getElem_mem (l := ps) (n := j) (by omega));have q := h1.at hp;rw [e] at q;exact ⟨m,a,l,c,q.1,q.2,h1.1.fz _,h1.1.fz _⟩
theorem FilI.done {w : World} {g n : Nat} {F : Nat → Int} {k : Nat} (h : FilI w g n n F k) {B : Nat} (hB : B ≤ g) (hn : n ≤ 1048576) : ∃ ps,Prs B w (.slice (some ⟨g,0,none⟩) n n) ps ∧ Zis w ps ((List.range n).map F) k := by
 obtain ⟨ps,h1,rfl,h3⟩ := h;refine ⟨ps,h1.prs hB hn (Nat.le_refl _),by simp,fun j p z hp hz => ?_⟩;have hj : j < ps.length := (List.getElem?_eq_some_iff.1 hp).1;rw [List.getElem?_map,List.getElem?_range hj,Option.map_some,Option.some.injEq] at hz;subst hz;exact h3 j p hj hp
theorem range_getD (zs : List Int) : (List.range zs.length).map (fun j => zs.getD j 0) = zs := by
 apply List.ext_getElem
 ·simp
 ·intro j h1 h2
  simp [h2]
theorem zEE {w : World} {v : Value} {z : Int} {k : Nat} (h : Zi w v z k) (hk : k ≤ 17592186044416) : Calls Tryz.prog 20 #[v] w (zOI w z k) := by
 obtain ⟨n,xs,a,c,rfl,hs,hz,hl⟩ := h;obtain ⟨W0,hW⟩ : ∃ W0,(w.alloc (duo (.bool n) (.slice a xs.length c))).alloc zbox = W0 := ⟨_,rfl⟩
 obtain ⟨b0,sz0⟩ := zXA w (duo (.bool n) (.slice a xs.length c)) zbox;rw [hW] at b0 sz0;have pa : Duo W0 w.heap.size (.bool n) (.slice a xs.length c) := by rw [← hW];exact (Duo.new w _ _).later (by simp) _
 have PR : Hid (Duo W0 (w.heap.size + 1) (.bool false) (.slice none 0 0)) := by
  unfold Hid;rw [← hW];have := Duo.new (w.alloc (duo (.bool n) (.slice a xs.length c))) (.bool false) (.slice none 0 0)
  simpa using this
 have k0 := pa.c0;have k1 := pa.c1;have S0 := hid (hs.now b0);have G0 := hid b0;have EW := hid hW;have HL : Hid (xs.length ≤ 17592186044416) := by unfold Hid;omega
 have HLK := hid hl;have HZ := hid hz;clear hs hz hl hk b0 sz0 hW pa;go_enter Tryz.func20,Tryz.ntmps20;go_wp2_with fail;rw [EW.out];clear EW;have KB : Hid (∀ w',Below W0.heap.size W0 w' → w'.cell? ⟨w.heap.size,0,none⟩ = some (.bool n) ∧ w'.cell? ⟨w.heap.size,1,none⟩ = some (.slice a xs.length c)) := fun w' h => ⟨cnow h k0,cnow h k1⟩
 refine zFA (fun w' => w'.cell? ⟨w.heap.size,0,none⟩ = some (.bool n) ∧ w'.cell? ⟨w.heap.size,1,none⟩ = some (.slice a xs.length c)) 7 (by kernel_rfl) ?_;obtain ⟨D1,hD⟩ : ∃ D1,W0.drew = D1 := ⟨_,rfl⟩
 have GB : Hid (Below W0.heap.size W0 D1) := by unfold Hid;rw [← hD];exact (Below.refl _ _).drew
 rw [hD];clear hD;refine zBA (i := 0) (oi := ⟨some 3,.fieldAddr 26 (.tmp 1) 0,0, "law.go:190",#[],none⟩) (v := (.pointer (some ⟨w.heap.size,0,none⟩))) rfl (by kernel_rfl) (fun _ _ _ h => h) (Or.inl ⟨by rfl,?_⟩) (KB.out _ GB.out) ?_
 ·intro w hSw;(try dsimp only at hSw);go_simp
 simp only [Act.put,sIb,sC0,sC1];refine zBA (i := 1) (oi := ⟨some 4,.load 4 (.tmp 3),4, "law.go:190",#[⟨0,.data⟩],none⟩) (v := (.bool n)) rfl (by kernel_rfl) (fun _ _ _ h => h) (Or.inl ⟨by rfl,?_⟩) (KB.out _ GB.out) ?_
 ·intro w hSw;(try dsimp only at hSw);go_simp
 simp only [Act.put,sIb,sC0,sC1];refine zBA (i := 3) (oi := ⟨some 6,.fieldAddr 26 (.tmp 1) 1,0, "law.go:190",#[],none⟩) (v := (.pointer (some ⟨w.heap.size,1,none⟩))) rfl (by kernel_rfl) (fun _ _ _ h => h) (Or.inl ⟨by rfl,?_⟩) (KB.out _ GB.out) ?_
 ·intro w hSw;(try dsimp only at hSw);go_simp
 simp only [Act.put,sIb,sC0,sC1];refine zBA (i := 4) (oi := ⟨some 7,.load 24 (.tmp 6),24, "law.go:190",#[⟨3,.data⟩],none⟩) (v := (.slice a xs.length c)) rfl (by kernel_rfl) (fun _ _ _ h => h) (Or.inl ⟨by rfl,?_⟩) (KB.out _ GB.out) ?_
 ·intro w hSw;(try dsimp only at hSw);go_simp
 simp only [Act.put,sIb,sC0,sC1];refine zDA (i := 2) (o := ⟨some 5,.buildSlice 24 0 #[],24, "law.go:190",#[],none⟩) (by kernel_rfl) rfl (fun K hK => ?_);go_simp;obtain ⟨V2,hW⟩ : ∃ V2,D1.alloc (.cells #[] 53) = V2 := ⟨_,rfl⟩
 obtain ⟨b,sz2⟩ := alo1 D1 (.cells #[] 53);rw [hW] at b sz2;replace GB := hid (below_step GB.out b);rw [hW];clear hW b;refine hK.out _ _ (fun _ => KB.out _ GB.out) ?_;clear hK
 try simp only [Act.put]
 refine zDA (i := 5) (o := ⟨some 8,.call { callee := .builtin .append,args := #[.tmp 5,.tmp 7],argTypes := #[24,24] },24, "law.go:190",#[⟨2,.data⟩,⟨4,.data⟩],none⟩) (by kernel_rfl) rfl (fun K hK => ?_);refine step_append_any (by rfl) (.tmp 5) (.tmp 7) (by rfl) _ _ xs (by rfl) (by rfl) (S0.out.now GB.out) HL.out ?_;intro v1 w1 hF hN;replace GB := hid (below_step GB.out hN.out);obtain ⟨a1,c1,rfl⟩ := hF.out.form;have SA := hid hF.out.sl;have PR1 := hid (PR.out.step GB.out);have G1 := hid (below_step G0.out GB.out);clear hF hN;refine hK.out _ _ (fun _ => KB.out _ GB.out) ?_;clear hK
 try simp only [Act.put]
 refine zBA (i := 6) (oi := ⟨some 9,.build 26 #[(0,.tmp 4),(1,.tmp 8)],26, "law.go:190",#[⟨1,.data⟩,⟨5,.data⟩],none⟩) (v := (.agg #[.bool n,.slice a1 xs.length c1])) rfl (by kernel_rfl) (fun _ _ _ h => h) (Or.inl ⟨by rfl,?_⟩) (KB.out _ GB.out) ?_
 ·intro w hSw;(try dsimp only at hSw);go_simp
 simp only [Act.put,sIb,sC0,sC1];refine zDA (i := 7) (o := ⟨none,.store 26 (.tmp 2) (.tmp 9),0, "law.go:190",#[⟨6,.data⟩,⟨5,.chain⟩,⟨0,.phase⟩,⟨1,.phase⟩,⟨2,.phase⟩,⟨3,.phase⟩,⟨4,.phase⟩,⟨5,.phase⟩,⟨6,.phase⟩],none⟩) (by kernel_rfl) rfl (fun K hK => ?_);have r0 := PR1.out.c0;have r1 := PR1.out.c1;have f0 := PR1.out.fz 0;have f1 := PR1.out.fz 1;go_simp;clear r0 r1 f0 f1;obtain ⟨V3,hW⟩ : ∃ V3,((w1.setCell ⟨w.heap.size + 1,0,none⟩ (.bool n)).setCell ⟨w.heap.size + 1,1,none⟩ (.slice a1 xs.length c1)) = V3 := ⟨_,rfl⟩
 have PF : Hid (Duo V3 (w.heap.size + 1) (.bool n) (.slice a1 xs.length c1)) := by unfold Hid;rw [← hW];exact PR1.out.set _ _
 have FIN : Hid (zOI w z k (.returned (.agg #[.bool n,.slice a1 xs.length c1])) V3) := by
  unfold Hid;rw [← hW];exact ⟨_,rfl,(show Zi w1 _ z k from ⟨n,xs,a1,c1,rfl,SA.out,HZ.out,HLK.out⟩).wk (PR1.out.wk _ _),bset (bset G1.out (Nat.le_succ _)) (Nat.le_succ _)⟩
 rw [hW];clear hW;refine hK.out _ _ (fun h => absurd h (by decide)) ?_;clear hK
 try simp only [Act.put]
 refine zIA (by kernel_rfl) ?_ _;clear KB GB S0 PR PR1 G0 G1 SA HZ HL HLK;go_wp2;exact bodyPost_ret (zBB Tryz.results20 PF.out _ (by rfl)) rfl FIN.out
def ztI (w : World) (n : Nat) (F : Nat → Int) (k gk : Nat) (s : Value) (wx : World) : Prop :=
 ∃ i : Nat,s = .int .i64 (i : Int) ∧ i ≤ n ∧ gk = n - i ∧ FilI wx w.heap.size n i F k ∧ Below w.heap.size w wx
def zZH (w : World) (zs : List Int) (k : Nat) (e : Ending) (w' : World) : Prop := ∃ v ps,e = .returned v ∧ Prs w.heap.size w' v ps ∧ Zis w' ps zs k ∧ Below w.heap.size w w'
theorem zKG {w : World} {v : Value} {zs : List Int} {k : Nat} (h : Zl w v zs k) (hk : k ≤ 17592186044416) : Calls Tryz.prog 21 #[v] w (zZH w zs k) := by
 have A0 := hid h;obtain ⟨a0,c0,rfl,hc0,hn0,hf0⟩ := h.form9;have RZ := hid (range_getD zs);obtain ⟨n,hn⟩ : ∃ n,zs.length = n := ⟨_,rfl⟩
 rw [hn] at A0 hc0 hn0 RZ ⊢;have HN := hid hn;have F0 := hid hf0;have HK := hid hk;clear h hf0 hn hk;go_enter Tryz.func21,Tryz.ntmps21;go_wp2_with (at_make;refine zpB _ rfl _ _ rfl _ _ n n rfl rfl rfl rfl (Nat.le_refl _) (by omega) ?_)
 intro w1 hrow hb1 hsz1;have H0 : Hid (ztI w n (fun j => zs.getD j 0) k n (.int .i64 0) w1) := ⟨0,rfl,Nat.zero_le _,by omega,FilI.start hrow _ _,hb1⟩
 clear hrow hb1 hsz1;go_wp2_with fail
 go_loopg [4] n (fun gk s4 wx => ztI w n (fun j => zs.getD j 0) k gk s4 wx)
 case atStart => exact H0.out
 case round =>
  clear H0;obtain ⟨i,rfl,hin,hg,hfil,hG⟩ := hrel;have FI := hid hfil;have G := hid hG;have HG := hid hg;clear hfil hG hg
  by_cases hlt : i < n
  ·have hlt' : (i : Int) < (n : Int) := by omega
   obtain ⟨b1,o1,rfl⟩ := F0.out (fun e => by have := HN.out;rw [e] at this;simp at this;omega);obtain ⟨nf,xf,adf,qf,k0,k1,zf⟩ := (A0.out.now G.out).at9 (i := i) (by rw [HN.out];exact hlt);have ZF : Hid (∀ hh : i < zs.length,zs[i] = zs.getD i 0) := fun hh => znD hh
   rw [ZF.out (by rw [HN.out];exact hlt)] at zf;have HS := hid (zEE zf HK.out);clear zf;have hw := zlG (i := i) (by omega);go_wp2_with fail;refine HS.out.mono ?_;rintro e w1 ⟨r,rfl,m1,b⟩;have FI1 := hid (FI.out.step b);have G1 := hid (below_step G.out b);have M1 := hid m1;obtain ⟨nr,xr,ar,cr,rfl⟩ := m1.parts5;obtain ⟨m0,am,lm,cm,e0,e1,e2,e3⟩ := FI1.out.cells hlt;have HN1 : Hid (ztI w n (fun j => zs.getD j 0) k (n - (i + 1)) (.int .i64 ((i + 1 : Nat) : Int)) ((w1.setCell ⟨w.heap.size,i * 2,none⟩ (.bool nr)).setCell ⟨w.heap.size,i * 2 + 1,none⟩ (.slice ar xr.length cr))) :=
    ⟨i + 1,rfl,by omega,rfl,FI1.out.put hlt M1.out,bset (bset G1.out (Nat.le_refl _)) (Nat.le_refl _)⟩
   have HMM : Hid (n - (i + 1) < gk) := by unfold Hid;rw [HG.out];omega
   clear HS FI G HG FI1 G1 M1 m1 b k0 k1 ZF;go_wp2_with fail;go_roundg (n - (i + 1))
   case rel => exact HN1.out
   case measure => exact HMM.out
  ·have hlt' : ¬ (i : Int) < (n : Int) := by omega
   obtain rfl : i = n := by omega
   obtain ⟨ps,p1,p2⟩ := FI.out.done (B := w.heap.size) (Nat.le_refl _) hn0;rw [RZ.out] at p2;have FIN : Hid (zZH w zs k (.returned (.slice (some ⟨w.heap.size,0,none⟩) i i)) wr) := ⟨_,ps,rfl,p1,p2,G.out⟩
   clear FI G HG p1 p2;go_wp2;go_ret;exact FIN.out
abbrev opz5 : Obj := opo5 0 (.bool false) (.slice none 0 0) (.bool false) (.slice none 0 0) (.bool false) (.slice none 0 0) 0 0 ⟨#[]⟩ (.slice none 0 0) (.slice none 0 0)
def zuH (w : World) (b : Nat) (x : Nat → Value) : Nat → World
 | 0 => w
 | i + 1 => (zuH w b x i).setCell ⟨b,i,none⟩ (x i)
theorem zeE {B b : Nat} {w w' : World} {x : Nat → Value} (h : Below B w w') (hb : B ≤ b) : ∀ i,Below B w (zuH w' b x i)
 | 0 => h
 | i + 1 => (zeE h hb i).setCell (p := ⟨b,i,none⟩) hb _
theorem zOF {b : Nat} {w : World} {x : Nat → Value} : ∀ i,Only b w (zuH w b x i)
 | 0 => Only.refl b w
 | i + 1 => (zOF i).set i _
theorem zdE {B b : Nat} {w : World} {v : Value} {ps : List (Value × Value)} {x : Nat → Value} (h : Prs B w v ps) (hb : b < B) : ∀ i,Prs B (zuH w b x i) v ps
 | 0 => h
 | i + 1 => (zdE h hb i).off hb
theorem Zi.only5 {b : Nat} {w w' : World} {v : Value} {z : Int} {k : Nat} (h : Zi w v z k) (o : Only b w w') (cs : Array Value) (hb : w.heap[b]? = some (.cells cs 29 (0,0))) (hw : ∀ (i : Nat) (x : Int),cs[i]? ≠ some (.int .u64 x)) : Zi w' v z k := by
 refine h.wk ⟨by rw [o.1];exact Nat.le_refl _,fun g off x e => ?_⟩
 by_cases q : g = b
 ·subst q
  exfalso
  simp [World.cell?,hb] at e;exact hw off x (by simpa using e)
 ·exact (o.cell q).trans e
theorem copied_back {W : World} {b : Nat} {x0 x1 x2 x3 x4 x5 x6 x7 x8 x9 x10 x11 : Value} (h : W.heap[b]? = some (.cells #[x0,x1,x2,x3,x4,x5,x6,x7,x8,x9,x10,x11] 29 (0,0))) (tmps : Array Value) (ht : tmps[2]? = some (.pointer (some ⟨b,0,none⟩))) :
  (results Tryz.f6 tmps).run Tryz.prog W = .ok (.agg #[x0,x1,x2,x3,x4,x5,x6,x7,x8,x9,x10,x11]) W := by
 have c : ∀ i u,#[x0,x1,x2,x3,x4,x5,x6,x7,x8,x9,x10,x11][i]? = some u → W.cell? ⟨b,i,none⟩ = some u := fun i u e => by simp [World.cell?,h,e]
 simp [results,Tryz.results6,go_sem,ht,c 0 x0 rfl,c 1 x1 rfl,c 2 x2 rfl,c 3 x3 rfl,c 4 x4 rfl,c 5 x5 rfl,c 6 x6 rfl,c 7 x7 rfl,c 8 x8 rfl,c 9 x9 rfl,c 10 x10 rfl,c 11 x11 rfl]
def zjG (w : World) (kind A B C N M : Int) (l : List UInt8) (KS LS : List Int) (e : Ending) (w' : World) : Prop :=
 ∃ a0 a1 b0 b1 c0 c1 vk vl,e = .returned (.agg #[.int .i64 kind,a0,a1,b0,b1,c0,c1,.int .i64 N,.int .i64 M,.string ⟨l.toArray⟩,vk,vl]) ∧ Ops5 w' a0 a1 b0 b1 c0 c1 vk vl A B C N M l KS LS ∧ Below w.heap.size w w'
theorem zxE {w : World} {a0 a1 b0 b1 c0 c1 vk vl : Value} {kind A B C N M : Int} {l : List UInt8} {KS LS : List Int} (o : Ops5 w a0 a1 b0 b1 c0 c1 vk vl A B C N M l KS LS) :
  Calls Tryz.prog 6 #[.agg #[.int .i64 kind,a0,a1,b0,b1,c0,c1,.int .i64 N,.int .i64 M,.string ⟨l.toArray⟩,vk,vl]] w (zjG w kind A B C N M l KS LS) := by
 obtain ⟨W0,hW⟩ : ∃ W0,(w.alloc (opo5 kind a0 a1 b0 b1 c0 c1 N M ⟨l.toArray⟩ vk vl)).alloc opz5 = W0 := ⟨_,rfl⟩
 obtain ⟨b00,sz0⟩ := zXA w (opo5 kind a0 a1 b0 b1 c0 c1 N M ⟨l.toArray⟩ vk vl) opz5;rw [hW] at b00 sz0;have h1 : W0.heap[w.heap.size]? = some (opo5 kind a0 a1 b0 b1 c0 c1 N M ⟨l.toArray⟩ vk vl) := by rw [← hW];exact (Below.heap_alloc _ _ _ (by simp)).trans (heap_alloc_new w _)
 have h2 : W0.heap[w.heap.size + 1]? = some opz5 := by
  rw [← hW];have := heap_alloc_new (w.alloc (opo5 kind a0 a1 b0 b1 c0 c1 N M ⟨l.toArray⟩ vk vl)) opz5;rw [show (w.alloc (opo5 kind a0 a1 b0 b1 c0 c1 N M ⟨l.toArray⟩ vk vl)).heap.size = w.heap.size + 1 by simp] at this;exact this
 have B2 := hid h2;have G0 := hid b00;have EW := hid hW;have O := hid o;obtain ⟨k0,k1,k2,k3,k4,k5,k6,k7,k8,k9,k10,k11⟩ := tw5 h1;obtain ⟨T,hT⟩ : ∃ T,(⟨l.toArray⟩ : ByteArray) = T := ⟨_,rfl⟩
 have HT := hid hT;have ZA := hid (o.za.now b00);have ZB := hid (o.zb.now b00);have ZC := hid (o.zc.now b00);have ZK := hid (o.zk.now b00);have ZL := hid (o.zl.now b00);rw [hT] at k9 EW ⊢;clear o h1 h2 b00 hW hT;go_enter Tryz.func6,Tryz.ntmps6;go_wp2_with fail;rw [EW.out];clear EW;have KB : Hid (∀ w',Below W0.heap.size W0 w' → w'.cell? ⟨w.heap.size,0,none⟩ = some (.int .i64 kind) ∧ w'.cell? ⟨w.heap.size,1,none⟩ = some a0 ∧ w'.cell? ⟨w.heap.size,2,none⟩ = some a1 ∧ w'.cell? ⟨w.heap.size,3,none⟩ = some b0 ∧ w'.cell? ⟨w.heap.size,4,none⟩ = some b1 ∧ w'.cell? ⟨w.heap.size,5,none⟩ = some c0 ∧ w'.cell? ⟨w.heap.size,6,none⟩ = some c1 ∧ w'.cell? ⟨w.heap.size,7,none⟩ = some (.int .i64 N) ∧ w'.cell? ⟨w.heap.size,8,none⟩ = some (.int .i64 M) ∧ w'.cell? ⟨w.heap.size,9,none⟩ = some (.string T) ∧ w'.cell? ⟨w.heap.size,10,none⟩ = some vk ∧ w'.cell? ⟨w.heap.size,11,none⟩ = some vl) := fun w' h => ⟨cnow h k0,cnow h k1,cnow h k2,cnow h k3,cnow h k4,cnow h k5,cnow h k6,cnow h k7,cnow h k8,cnow h k9,cnow h k10,cnow h k11⟩
 refine zFA (fun w' => w'.cell? ⟨w.heap.size,0,none⟩ = some (.int .i64 kind) ∧ w'.cell? ⟨w.heap.size,1,none⟩ = some a0 ∧ w'.cell? ⟨w.heap.size,2,none⟩ = some a1 ∧ w'.cell? ⟨w.heap.size,3,none⟩ = some b0 ∧ w'.cell? ⟨w.heap.size,4,none⟩ = some b1 ∧ w'.cell? ⟨w.heap.size,5,none⟩ = some c0 ∧ w'.cell? ⟨w.heap.size,6,none⟩ = some c1 ∧ w'.cell? ⟨w.heap.size,7,none⟩ = some (.int .i64 N) ∧ w'.cell? ⟨w.heap.size,8,none⟩ = some (.int .i64 M) ∧ w'.cell? ⟨w.heap.size,9,none⟩ = some (.string T) ∧ w'.cell? ⟨w.heap.size,10,none⟩ = some vk ∧ w'.cell? ⟨w.heap.size,11,none⟩ = some vl) 24 (by kernel_rfl) ?_;obtain ⟨D21,hD⟩ : ∃ D21,W0.drew = D21 := ⟨_,rfl⟩
 have GB : Hid (Below W0.heap.size W0 D21) := by unfold Hid;rw [← hD];exact (Below.refl _ _).drew
 rw [hD];clear hD;have GBl : Hid (W0.heap.size ≤ D21.heap.size) := hid GB.out.size;replace B2 := hid (box5 B2.out GB.out);refine zBA (i := 0) (oi := ⟨some 3,.fieldAddr 29 (.tmp 1) 0,0, "law.go:204",#[],none⟩) (v := (.pointer (some ⟨w.heap.size,0,none⟩))) rfl (by kernel_rfl) (fun _ _ _ h => h) (Or.inl ⟨by rfl,?_⟩) (KB.out _ GB.out) ?_
 ·intro w hSw;(try dsimp only at hSw);go_simp
 simp only [Act.put,sIb,sC0,sC1];refine zBA (i := 1) (oi := ⟨some 4,.load 3 (.tmp 3),3, "law.go:204",#[⟨0,.data⟩],none⟩) (v := (.int .i64 kind)) rfl (by kernel_rfl) (fun _ _ _ h => h) (Or.inl ⟨by rfl,?_⟩) (KB.out _ GB.out) ?_
 ·intro w hSw;(try dsimp only at hSw);go_simp
 simp only [Act.put,sIb,sC0,sC1];refine zBA (i := 2) (oi := ⟨some 5,.fieldAddr 29 (.tmp 1) 1,0, "law.go:204",#[],none⟩) (v := (.pointer (some ⟨w.heap.size,1,none⟩))) rfl (by kernel_rfl) (fun _ _ _ h => h) (Or.inl ⟨by rfl,?_⟩) (KB.out _ GB.out) ?_
 ·intro w hSw;(try dsimp only at hSw);go_simp
 simp only [Act.put,sIb,sC0,sC1];refine zBA (i := 3) (oi := ⟨some 6,.load 26 (.tmp 5),26, "law.go:204",#[⟨2,.data⟩],none⟩) (v := (.agg #[a0,a1])) rfl (by kernel_rfl) (fun _ _ _ h => h) (Or.inl ⟨by rfl,?_⟩) (KB.out _ GB.out) ?_
 ·intro w hSw;(try dsimp only at hSw);go_simp
 simp only [Act.put,sIb,sC0,sC1];refine zBA (i := 5) (oi := ⟨some 8,.fieldAddr 29 (.tmp 1) 2,0, "law.go:204",#[],none⟩) (v := (.pointer (some ⟨w.heap.size,3,none⟩))) rfl (by kernel_rfl) (fun _ _ _ h => h) (Or.inl ⟨by rfl,?_⟩) (KB.out _ GB.out) ?_
 ·intro w hSw;(try dsimp only at hSw);go_simp
 simp only [Act.put,sIb,sC0,sC1];refine zBA (i := 6) (oi := ⟨some 9,.load 26 (.tmp 8),26, "law.go:204",#[⟨5,.data⟩],none⟩) (v := (.agg #[b0,b1])) rfl (by kernel_rfl) (fun _ _ _ h => h) (Or.inl ⟨by rfl,?_⟩) (KB.out _ GB.out) ?_
 ·intro w hSw;(try dsimp only at hSw);go_simp
 simp only [Act.put,sIb,sC0,sC1];refine zBA (i := 8) (oi := ⟨some 11,.fieldAddr 29 (.tmp 1) 3,0, "law.go:204",#[],none⟩) (v := (.pointer (some ⟨w.heap.size,5,none⟩))) rfl (by kernel_rfl) (fun _ _ _ h => h) (Or.inl ⟨by rfl,?_⟩) (KB.out _ GB.out) ?_
 ·intro w hSw;(try dsimp only at hSw);go_simp
 simp only [Act.put,sIb,sC0,sC1];refine zBA (i := 9) (oi := ⟨some 12,.load 26 (.tmp 11),26, "law.go:204",#[⟨8,.data⟩],none⟩) (v := (.agg #[c0,c1])) rfl (by kernel_rfl) (fun _ _ _ h => h) (Or.inl ⟨by rfl,?_⟩) (KB.out _ GB.out) ?_
 ·intro w hSw;(try dsimp only at hSw);go_simp
 simp only [Act.put,sIb,sC0,sC1];refine zBA (i := 11) (oi := ⟨some 14,.fieldAddr 29 (.tmp 1) 4,0, "law.go:204",#[],none⟩) (v := (.pointer (some ⟨w.heap.size,7,none⟩))) rfl (by kernel_rfl) (fun _ _ _ h => h) (Or.inl ⟨by rfl,?_⟩) (KB.out _ GB.out) ?_
 ·intro w hSw;(try dsimp only at hSw);go_simp
 simp only [Act.put,sIb,sC0,sC1];refine zBA (i := 12) (oi := ⟨some 15,.load 3 (.tmp 14),3, "law.go:204",#[⟨11,.data⟩],none⟩) (v := (.int .i64 N)) rfl (by kernel_rfl) (fun _ _ _ h => h) (Or.inl ⟨by rfl,?_⟩) (KB.out _ GB.out) ?_
 ·intro w hSw;(try dsimp only at hSw);go_simp
 simp only [Act.put,sIb,sC0,sC1];refine zBA (i := 13) (oi := ⟨some 16,.fieldAddr 29 (.tmp 1) 5,0, "law.go:204",#[],none⟩) (v := (.pointer (some ⟨w.heap.size,8,none⟩))) rfl (by kernel_rfl) (fun _ _ _ h => h) (Or.inl ⟨by rfl,?_⟩) (KB.out _ GB.out) ?_
 ·intro w hSw;(try dsimp only at hSw);go_simp
 simp only [Act.put,sIb,sC0,sC1];refine zBA (i := 14) (oi := ⟨some 17,.load 2 (.tmp 16),2, "law.go:204",#[⟨13,.data⟩],none⟩) (v := (.int .i64 M)) rfl (by kernel_rfl) (fun _ _ _ h => h) (Or.inl ⟨by rfl,?_⟩) (KB.out _ GB.out) ?_
 ·intro w hSw;(try dsimp only at hSw);go_simp
 simp only [Act.put,sIb,sC0,sC1];refine zBA (i := 15) (oi := ⟨some 18,.fieldAddr 29 (.tmp 1) 6,0, "law.go:204",#[],none⟩) (v := (.pointer (some ⟨w.heap.size,9,none⟩))) rfl (by kernel_rfl) (fun _ _ _ h => h) (Or.inl ⟨by rfl,?_⟩) (KB.out _ GB.out) ?_
 ·intro w hSw;(try dsimp only at hSw);go_simp
 simp only [Act.put,sIb,sC0,sC1];refine zBA (i := 16) (oi := ⟨some 19,.load 9 (.tmp 18),9, "law.go:204",#[⟨15,.data⟩],none⟩) (v := (.string T)) rfl (by kernel_rfl) (fun _ _ _ h => h) (Or.inl ⟨by rfl,?_⟩) (KB.out _ GB.out) ?_
 ·intro w hSw;(try dsimp only at hSw);go_simp
 simp only [Act.put,sIb,sC0,sC1];refine zBA (i := 17) (oi := ⟨some 20,.fieldAddr 29 (.tmp 1) 7,0, "law.go:204",#[],none⟩) (v := (.pointer (some ⟨w.heap.size,10,none⟩))) rfl (by kernel_rfl) (fun _ _ _ h => h) (Or.inl ⟨by rfl,?_⟩) (KB.out _ GB.out) ?_
 ·intro w hSw;(try dsimp only at hSw);go_simp
 simp only [Act.put,sIb,sC0,sC1];refine zBA (i := 18) (oi := ⟨some 21,.load 27 (.tmp 20),27, "law.go:204",#[⟨17,.data⟩],none⟩) (v := vk) rfl (by kernel_rfl) (fun _ _ _ h => h) (Or.inl ⟨by rfl,?_⟩) (KB.out _ GB.out) ?_
 ·intro w hSw;(try dsimp only at hSw);go_simp
 simp only [Act.put,sIb,sC0,sC1];refine zBA (i := 20) (oi := ⟨some 23,.fieldAddr 29 (.tmp 1) 8,0, "law.go:204",#[],none⟩) (v := (.pointer (some ⟨w.heap.size,11,none⟩))) rfl (by kernel_rfl) (fun _ _ _ h => h) (Or.inl ⟨by rfl,?_⟩) (KB.out _ GB.out) ?_
 ·intro w hSw;(try dsimp only at hSw);go_simp
 simp only [Act.put,sIb,sC0,sC1];refine zBA (i := 21) (oi := ⟨some 24,.load 27 (.tmp 23),27, "law.go:204",#[⟨20,.data⟩],none⟩) (v := vl) rfl (by kernel_rfl) (fun _ _ _ h => h) (Or.inl ⟨by rfl,?_⟩) (KB.out _ GB.out) ?_
 ·intro w hSw;(try dsimp only at hSw);go_simp
 simp only [Act.put,sIb,sC0,sC1];refine zDA (i := 4) (o := ⟨some 7,.call { callee := .value (.func 20),args := #[.tmp 6],argTypes := #[26] },26, "law.go:204",#[⟨3,.data⟩],none⟩) (by kernel_rfl) rfl (fun K hK => ?_);go_simp;go_at_call 20;refine (zEE (ZA.out.now GB.out) (by decide)).mono ?_;rintro e w22 ⟨r,rfl,m1,b⟩;have lz22 := (show Below _ _ _ from b).size;replace GB := hid (below_step GB.out b);replace B2 := hid (box5 B2.out b);obtain ⟨na,xa,aa,ca,rfl⟩ := m1.parts5;have Ma := hid m1;clear m1;replace GBl : Hid (W0.heap.size ≤ w22.heap.size) := hid GB.out.size;clear b;refine hK.out _ _ (fun _ => KB.out _ GB.out) ?_;clear hK;refine zDA (i := 7) (o := ⟨some 10,.call { callee := .value (.func 20),args := #[.tmp 9],argTypes := #[26] },26, "law.go:204",#[⟨6,.data⟩,⟨4,.chain⟩],none⟩) (by kernel_rfl) rfl (fun K hK => ?_);go_simp;go_at_call 20;refine (zEE (ZB.out.now GB.out) (by decide)).mono ?_;rintro e w23 ⟨r,rfl,m1,b⟩;have lz23 := (show Below _ _ _ from b).size;replace GB := hid (below_step GB.out b);replace Ma := hid (Ma.out.now b);replace B2 := hid (box5 B2.out b);obtain ⟨nb,xb,ab,cb,rfl⟩ := m1.parts5;have Mb := hid m1;clear m1;replace GBl : Hid (W0.heap.size ≤ w23.heap.size) := hid GB.out.size;clear b;refine hK.out _ _ (fun _ => KB.out _ GB.out) ?_;clear hK;refine zDA (i := 10) (o := ⟨some 13,.call { callee := .value (.func 20),args := #[.tmp 12],argTypes := #[26] },26, "law.go:204",#[⟨9,.data⟩,⟨7,.chain⟩],none⟩) (by kernel_rfl) rfl (fun K hK => ?_);go_simp;go_at_call 20;refine (zEE (ZC.out.now GB.out) (by decide)).mono ?_;rintro e w24 ⟨r,rfl,m1,b⟩;have lz24 := (show Below _ _ _ from b).size;replace GB := hid (below_step GB.out b);replace Ma := hid (Ma.out.now b);replace Mb := hid (Mb.out.now b);replace B2 := hid (box5 B2.out b);obtain ⟨nc,xc,ac,cc,rfl⟩ := m1.parts5;have Mc := hid m1;clear m1;replace GBl : Hid (W0.heap.size ≤ w24.heap.size) := hid GB.out.size;clear b;refine hK.out _ _ (fun _ => KB.out _ GB.out) ?_;clear hK;refine zDA (i := 19) (o := ⟨some 22,.call { callee := .value (.func 21),args := #[.tmp 21],argTypes := #[27] },27, "law.go:204",#[⟨18,.data⟩,⟨10,.chain⟩],none⟩) (by kernel_rfl) rfl (fun K hK => ?_);go_simp;go_at_call 21;refine (zKG (ZK.out.now GB.out) (by decide)).mono ?_;rintro e w25 ⟨v,psk,rfl,p1,z1,b⟩;have lz25 := (show Below _ _ _ from b).size;replace GB := hid (below_step GB.out b);replace Ma := hid (Ma.out.now b);replace Mb := hid (Mb.out.now b);replace Mc := hid (Mc.out.now b);replace B2 := hid (box5 B2.out b);obtain ⟨ak,ck,rfl,-,-,-,-⟩ := p1.form;obtain ⟨lk,hlk⟩ : ∃ l,psk.length = l := ⟨_,rfl⟩
 rw [hlk] at p1 ⊢;have Pk := hid (p1.mono (B' := W0.heap.size) (by exact GBl.out));have Qk := hid z1;clear p1 z1 hlk;replace GBl : Hid (W0.heap.size ≤ w25.heap.size) := hid GB.out.size;clear b;refine hK.out _ _ (fun _ => KB.out _ GB.out) ?_;clear hK;refine zDA (i := 22) (o := ⟨some 25,.call { callee := .value (.func 21),args := #[.tmp 24],argTypes := #[27] },27, "law.go:204",#[⟨21,.data⟩,⟨19,.chain⟩],none⟩) (by kernel_rfl) rfl (fun K hK => ?_);go_simp;go_at_call 21;refine (zKG (ZL.out.now GB.out) (by decide)).mono ?_;rintro e w26 ⟨v,psl,rfl,p1,z1,b⟩;have lz26 := (show Below _ _ _ from b).size;replace GB := hid (below_step GB.out b);replace Ma := hid (Ma.out.now b);replace Mb := hid (Mb.out.now b);replace Mc := hid (Mc.out.now b);replace Pk := hid (Pk.out.now b);replace Qk := hid (Qk.out.now b);replace B2 := hid (box5 B2.out b);obtain ⟨al,cl,rfl,-,-,-,-⟩ := p1.form;obtain ⟨ll,hll⟩ : ∃ l,psl.length = l := ⟨_,rfl⟩
 rw [hll] at p1 ⊢;have Pl := hid (p1.mono (B' := W0.heap.size) (by exact GBl.out));have Ql := hid z1;clear p1 z1 hll;replace GBl : Hid (W0.heap.size ≤ w26.heap.size) := hid GB.out.size;clear b;refine hK.out _ _ (fun _ => KB.out _ GB.out) ?_;clear hK;refine zBA (i := 23) (oi := ⟨some 26,.build 29 #[(0,.tmp 4),(1,.tmp 7),(2,.tmp 10),(3,.tmp 13),(4,.tmp 15),(5,.tmp 17),(6,.tmp 19),(7,.tmp 22),(8,.tmp 25)],29, "law.go:204",#[⟨1,.data⟩,⟨4,.data⟩,⟨7,.data⟩,⟨10,.data⟩,⟨12,.data⟩,⟨14,.data⟩,⟨16,.data⟩,⟨19,.data⟩,⟨22,.data⟩],none⟩) (v := (.agg #[.int .i64 kind,.bool na,.slice aa xa.length ca,.bool nb,.slice ab xb.length cb,.bool nc,.slice ac xc.length cc,.int .i64 N,.int .i64 M,.string T,.slice ak lk ck,.slice al ll cl])) rfl (by kernel_rfl) (fun _ _ _ h => h) (Or.inl ⟨by rfl,?_⟩) (KB.out _ GB.out) ?_
 ·intro w hSw;(try dsimp only at hSw);go_simp
 simp only [Act.put,sIb,sC0,sC1];refine zDA (i := 24) (o := ⟨none,.store 29 (.tmp 2) (.tmp 26),0, "law.go:204",#[⟨23,.data⟩,⟨22,.chain⟩,⟨0,.phase⟩,⟨1,.phase⟩,⟨2,.phase⟩,⟨3,.phase⟩,⟨4,.phase⟩,⟨5,.phase⟩,⟨6,.phase⟩,⟨7,.phase⟩,⟨8,.phase⟩,⟨9,.phase⟩,⟨10,.phase⟩,⟨11,.phase⟩,⟨12,.phase⟩,⟨13,.phase⟩,⟨14,.phase⟩,⟨15,.phase⟩,⟨16,.phase⟩,⟨17,.phase⟩,⟨18,.phase⟩,⟨19,.phase⟩,⟨20,.phase⟩,⟨21,.phase⟩,⟨22,.phase⟩,⟨23,.phase⟩],none⟩) (by kernel_rfl) rfl (fun K hK => ?_);obtain ⟨y0,y1,y2,y3,y4,y5,y6,y7,y8,y9,y10,y11⟩ := tw5 B2.out;have fz : ∀ i,w26.frozen? ⟨w.heap.size + 1,i,none⟩ = false := fun i => by simp [World.frozen?,B2.out]
 have f0 := fz 0;have f1 := fz 1;have f2 := fz 2;have f3 := fz 3;have f4 := fz 4;have f5 := fz 5;have f6 := fz 6;have f7 := fz 7;have f8 := fz 8;have f9 := fz 9;have f10 := fz 10;have f11 := fz 11;go_simp;clear y0 y1 y2 y3 y4 y5 y6 y7 y8 y9 y10 y11 f0 f1 f2 f3 f4 f5 f6 f7 f8 f9 f10 f11 fz;obtain ⟨V27,hW⟩ : ∃ V27,((((((((((((w26.setCell ⟨w.heap.size + 1,0,none⟩ (.int .i64 kind)).setCell ⟨w.heap.size + 1,1,none⟩ (.bool na)).setCell ⟨w.heap.size + 1,2,none⟩ (.slice aa xa.length ca)).setCell ⟨w.heap.size + 1,3,none⟩ (.bool nb)).setCell ⟨w.heap.size + 1,4,none⟩ (.slice ab xb.length cb)).setCell ⟨w.heap.size + 1,5,none⟩ (.bool nc)).setCell ⟨w.heap.size + 1,6,none⟩ (.slice ac xc.length cc)).setCell ⟨w.heap.size + 1,7,none⟩ (.int .i64 N)).setCell ⟨w.heap.size + 1,8,none⟩ (.int .i64 M)).setCell ⟨w.heap.size + 1,9,none⟩ (.string T)).setCell ⟨w.heap.size + 1,10,none⟩ (.slice ak lk ck)).setCell ⟨w.heap.size + 1,11,none⟩ (.slice al ll cl)) = V27 := ⟨_,rfl⟩
 have EP : V27 = zuH w26 (w.heap.size + 1) (fun i => ([.int .i64 kind,.bool na,.slice aa xa.length ca,.bool nb,.slice ab xb.length cb,.bool nc,.slice ac xc.length cc,.int .i64 N,.int .i64 M,.string T,.slice ak lk ck,.slice al ll cl] : List Value).getD i undef) 12 := by rw [← hW];rfl
 have OX : Only (w.heap.size + 1) w26 V27 := by rw [EP];exact zOF 12
 have GX : Hid (Below w.heap.size w V27) := by unfold Hid;rw [EP];exact zeE (below_step G0.out GB.out) (Nat.le_succ _) 12
 have SZX := sz0;have hwf : ∀ (i : Nat) (x : Int),(#[.int .i64 0,.bool false,.slice none 0 0,.bool false,.slice none 0 0,.bool false,.slice none 0 0,.int .i64 0,.int .i64 0,.string ⟨#[]⟩,.slice none 0 0,.slice none 0 0] : Array Value)[i]? ≠ some (.int .u64 x) := fun i x e => by
  match i,e with
  | 0,e => simp at e
  | 1,e => simp at e
  | 2,e => simp at e
  | 3,e => simp at e
  | 4,e => simp at e
  | 5,e => simp at e
  | 6,e => simp at e
  | 7,e => simp at e
  | 8,e => simp at e
  | 9,e => simp at e
  | 10,e => simp at e
  | 11,e => simp at e
  | i + 12,e => simp at e
 have XA := hid (Ma.out.only5 OX _ B2.out hwf);have XB := hid (Mb.out.only5 OX _ B2.out hwf);have XC := hid (Mc.out.only5 OX _ B2.out hwf);have XK : Hid (Zl V27 (.slice ak lk ck) KS 1048576) := by
  unfold Hid;have q := zdE (x := fun i => ([.int .i64 kind,.bool na,.slice aa xa.length ca,.bool nb,.slice ab xb.length cb,.bool nc,.slice ac xc.length cc,.int .i64 N,.int .i64 M,.string T,.slice ak lk ck,.slice al ll cl] : List Value).getD i undef) Pk.out (show w.heap.size + 1 < W0.heap.size by omega) 12;rw [← EP] at q;exact zlI q ⟨Qk.out.1,fun j p z hp hz => (Qk.out.2 j p z hp hz).only5 OX _ B2.out hwf⟩
 have XL : Hid (Zl V27 (.slice al ll cl) LS 1048576) := by
  unfold Hid;have q := zdE (x := fun i => ([.int .i64 kind,.bool na,.slice aa xa.length ca,.bool nb,.slice ab xb.length cb,.bool nc,.slice ac xc.length cc,.int .i64 N,.int .i64 M,.string T,.slice ak lk ck,.slice al ll cl] : List Value).getD i undef) Pl.out (show w.heap.size + 1 < W0.heap.size by omega) 12;rw [← EP] at q;exact zlI q ⟨Ql.out.1,fun j p z hp hz => (Ql.out.2 j p z hp hz).only5 OX _ B2.out hwf⟩
 have HB : Hid (V27.heap[w.heap.size + 1]? = some (.cells #[.int .i64 kind,.bool na,.slice aa xa.length ca,.bool nb,.slice ab xb.length cb,.bool nc,.slice ac xc.length cc,.int .i64 N,.int .i64 M,.string T,.slice ak lk ck,.slice al ll cl] 29 (0,0))) := by
  unfold Hid;rw [← hW];simp [World.setCell,Array.getElem?_modify,show w26.heap[w.heap.size + 1]? = _ from B2.out]
 have FIN : Hid (zjG w kind A B C N M l KS LS (.returned (.agg #[.int .i64 kind,.bool na,.slice aa xa.length ca,.bool nb,.slice ab xb.length cb,.bool nc,.slice ac xc.length cc,.int .i64 N,.int .i64 M,.string T,.slice ak lk ck,.slice al ll cl])) V27) := by
  unfold Hid;rw [← HT.out];exact ⟨_,_,_,_,_,_,_,_,rfl,⟨XA.out,XB.out,XC.out,O.out.hN,O.out.hM,O.out.hl,XK.out,XL.out,O.out.sg.now GX.out⟩,GX.out⟩
 clear EP OX GX SZX hwf XA XB XC XK XL;rw [hW];clear hW;refine hK.out _ _ (fun h => absurd h (by decide)) ?_;clear hK
 try simp only [Act.put]
 refine zIA (by kernel_rfl) ?_ _;clear KB GB GBl G0 O ZA ZB ZC ZK ZL Ma Mb Mc Pk Qk Pl Ql B2;go_wp2;exact bodyPost_ret (copied_back HB.out _ (by rfl)) rfl FIN.out
end Go.Proofs.YtkdobgbicnemcaaGreatDoor
