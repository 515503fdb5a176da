/-
 QDot9ToRowsOf9: Dot9, Rows9, RowsOf9, joined.
-/
import Derived.Test.YtbcgggadelnaaaaGreatQFil9ToTail

set_option maxRecDepth 100000
set_option maxHeartbeats 6400000
set_option linter.unusedVariables false
set_option linter.unusedSimpArgs false
namespace Go.Proofs.YtbcgggadelnaaaaGreat
open Go.RowKit
theorem cnow {w w' : World} {p : Addr} {v : Value} (h : Below w.heap.size w w') (k : w.cell? p = some v) : w'.cell? p = some v := (h.cell (World.block_lt_of_cell? w p k)).trans k
theorem zcB {xs : List Int} {i : Nat} (h : i < xs.length) : xs[i] = xs.getD i 0 := by simp [h]
def dotv (xs ys : List Int) : Int := zsum ((List.range xs.length).map fun j => xs.getD j 0 * ys.getD j 0)
def DotH (w : World) (g n : Nat) (F : Nat → Int) (k gk : Nat) (s : Value) (wx : World) : Prop :=
 ∃ i : Nat,s = .int .i64 (i : Int) ∧ i ≤ n ∧ gk = n - i ∧ Fil wx g n i F k ∧ Duo wx w.heap.size (.bool false) (.slice none 0 0) ∧ Below w.heap.size w wx
def Dotted (w : World) (z : Int) (k : Nat) (e : Ending) (w' : World) : Prop := ∃ r,e = .returned (.tuple #[r,.int .i64 0]) ∧ Zm w.heap.size w' r z k ∧ Below w.heap.size w w'
theorem dot_any {w : World} {va vb : Value} {xs ys : List Int} {k l : Nat} (ha : Zl w va xs k) (hb : Zl w vb ys l) (he : ys.length = xs.length) (hk : k + l + xs.length < 35184372088832) :
  Calls Tryz.prog 90 #[va,vb] w (Dotted w (dotv xs ys) (k + l + xs.length)) := by
 have A0 := hid ha;have B0 := hid hb;obtain ⟨a0,c0,rfl,hc0,hn0,hf0⟩ := ha.form9;obtain ⟨a1,c1,rfl,hc1,hn1,hf1⟩ := hb.form9;have DV : Hid (dotv xs ys = zsum ((List.range xs.length).map fun j => xs.getD j 0 * ys.getD j 0)) := rfl;obtain ⟨D,hD⟩ : ∃ D,dotv xs ys = D := ⟨_,rfl⟩
 rw [hD] at DV ⊢;obtain ⟨n,hn⟩ : ∃ n,xs.length = n := ⟨_,rfl⟩
 rw [he] at hc1 hn1 B0 ⊢;rw [hn] at A0 B0 hc0 hn0 hc1 hn1 hk DV ⊢;have HN := hid hn;have HE := hid (he.trans hn);have F0 := hid hf0;have F1 := hid hf1;clear ha hb hf0 hf1 hn he hD;obtain ⟨W0,hW⟩ : ∃ W0,w.alloc zbox = W0 := ⟨_,rfl⟩
 obtain ⟨b0,sz0⟩ := alo1 w zbox;rw [hW] at b0 sz0;have P4 : Hid (Duo W0 w.heap.size (.bool false) (.slice none 0 0)) := by unfold Hid;rw [← hW];exact Duo.new w _ _
 have G0 := hid b0;have EW := hid hW;have SZ := hid sz0;have q0 : ((n : Int) != (n : Int)) = false := by simp
 clear b0 hW sz0;go_enter Tryz.func90,Tryz.ntmps90;go_wp2_with (at_make;rw [EW.out];refine zOA _ rfl _ _ rfl _ _ n n rfl rfl rfl rfl (Nat.le_refl _) (by omega) ?_)
 intro w1 hrow hb1 hsz1;have H0 : Hid (DotH w W0.heap.size n (fun j => xs.getD j 0 * ys.getD j 0) (k + l) n (.int .i64 0) w1) := ⟨0,rfl,Nat.zero_le _,by omega,Fil.start hrow _ _,P4.out.step hb1,below_step G0.out hb1⟩
 have HGE : Hid (w.heap.size < W0.heap.size) := by unfold Hid;rw [SZ.out];omega
 clear hrow hb1 hsz1 P4 G0 EW SZ;generalize W0.heap.size = g at *;go_wp2_with fail
 go_loopg [19] n (fun gk s19 wx => DotH w g n (fun j => xs.getD j 0 * ys.getD j 0) (k + l) gk s19 wx)
 case atStart => exact H0.out
 case round =>
  clear H0;obtain ⟨i,rfl,hin,hg,hfil,hduo,hG⟩ := hrel;have FI := hid hfil;have P4 := hid hduo;have G := hid hG;have HG := hid hg;clear hfil hduo hG hg
  by_cases hlt : i < n
  ·have hlt' : (i : Int) < (n : Int) := by omega
   obtain ⟨b1,o1,rfl⟩ := F0.out (fun e => by have := HN.out;rw [e] at this;simp at this;omega);obtain ⟨b2,o2,rfl⟩ := F1.out (fun e => by have := HE.out;rw [e] at this;simp at this;omega);obtain ⟨nf,xf,adf,qf,k0,k1,zf⟩ := (A0.out.now G.out).at9 (i := i) (by rw [HN.out];exact hlt);obtain ⟨ng,xg,adg,qg,k2,k3,zg⟩ := (B0.out.now G.out).at9 (i := i) (by rw [HE.out];exact hlt);have ZF : Hid (∀ h : i < xs.length,∀ h' : i < ys.length,xs[i] * ys[i] = xs.getD i 0 * ys.getD i 0) := fun h h' => by rw [zcB h,zcB h']
   have HS : Hid (∀ w',Below wr.heap.size wr w' → Calls Tryz.prog 87 #[.agg #[.bool nf,.slice adf xf.length qf],.agg #[.bool ng,.slice adg xg.length qg]] w' (zdA w' _ (k + l))) := fun w' h => zrD (zf.now h) (zg.now h) (by omega)
   clear zf zg;have hw := zVA (i := i) (by omega);go_wp2_with fail;have KB : Hid (∀ w',Below wr.heap.size wr w' → w'.cell? ⟨b1,o1 + i * 2,none⟩ = some (.bool nf) ∧ w'.cell? ⟨b1,o1 + i * 2 + 1,none⟩ = some (.slice adf xf.length qf) ∧ w'.cell? ⟨b2,o2 + i * 2,none⟩ = some (.bool ng) ∧ w'.cell? ⟨b2,o2 + i * 2 + 1,none⟩ = some (.slice adg xg.length qg)) := fun w' h => ⟨cnow h k0,cnow h k1,cnow h k2,cnow h k3⟩
   refine zEA (fun w' => w'.cell? ⟨b1,o1 + i * 2,none⟩ = some (.bool nf) ∧ w'.cell? ⟨b1,o1 + i * 2 + 1,none⟩ = some (.slice adf xf.length qf) ∧ w'.cell? ⟨b2,o2 + i * 2,none⟩ = some (.bool ng) ∧ w'.cell? ⟨b2,o2 + i * 2 + 1,none⟩ = some (.slice adg xg.length qg)) 12 (by kernel_rfl) ?_;obtain ⟨D1,hD⟩ : ∃ D1,wr.drew = D1 := ⟨_,rfl⟩
   have GB : Hid (Below wr.heap.size wr D1) := by unfold Hid;rw [← hD];exact (Below.refl _ _).drew
   rw [hD];clear hD;have GBs := GB;refine zBA (i := 0) (oi := ⟨some 22,.move (.tmp 6),22, "zint.go:129",#[],none⟩) (v := (.slice (some ⟨g,0,none⟩) n n)) rfl (by kernel_rfl) (fun _ _ _ h => h) (Or.inl ⟨by rfl,?_⟩) (KB.out _ GB.out) ?_
   ·intro w hSw;(try dsimp only at hSw);go_simp
   simp only [Act.put,sIb,sC0,sC1];refine zBA (i := 1) (oi := ⟨some 23,.move (.tmp 7),3, "zint.go:129",#[],none⟩) (v := (.int .i64 (i : Int))) rfl (by kernel_rfl) (fun _ _ _ h => h) (Or.inl ⟨by rfl,?_⟩) (KB.out _ GB.out) ?_
   ·intro w hSw;(try dsimp only at hSw);go_simp
   simp only [Act.put,sIb,sC0,sC1];refine zBA (i := 2) (oi := ⟨some 24,.move (.tmp 0),22, "zint.go:129",#[],none⟩) (v := (.slice (some ⟨b1,o1,none⟩) n c0)) rfl (by kernel_rfl) (fun _ _ _ h => h) (Or.inl ⟨by rfl,?_⟩) (KB.out _ GB.out) ?_
   ·intro w hSw;(try dsimp only at hSw);go_simp
   simp only [Act.put,sIb,sC0,sC1];refine zBA (i := 3) (oi := ⟨some 25,.move (.tmp 7),3, "zint.go:129",#[],none⟩) (v := (.int .i64 (i : Int))) rfl (by kernel_rfl) (fun _ _ _ h => h) (Or.inl ⟨by rfl,?_⟩) (KB.out _ GB.out) ?_
   ·intro w hSw;(try dsimp only at hSw);go_simp
   simp only [Act.put,sIb,sC0,sC1];refine zBA (i := 4) (oi := ⟨some 26,.indexAddr 22 (.tmp 24) (.tmp 25),0, "zint.go:129",#[⟨2,.data⟩,⟨3,.data⟩],none⟩) (v := (.pointer (some ⟨b1,o1 + i * 2,none⟩))) rfl (by kernel_rfl) (fun _ _ _ h => h) (Or.inl ⟨by rfl,?_⟩) (KB.out _ GB.out) ?_
   ·intro w hSw;(try dsimp only at hSw);go_simp
   simp only [Act.put,sIb,sC0,sC1];refine zBA (i := 5) (oi := ⟨some 27,.load 51 (.tmp 26),51, "zint.go:129",#[⟨4,.data⟩],none⟩) (v := (.agg #[.bool nf,.slice adf xf.length qf])) rfl (by kernel_rfl) (fun _ _ _ h => h) (Or.inl ⟨by rfl,?_⟩) (KB.out _ GB.out) ?_
   ·intro w hSw;(try dsimp only at hSw);go_simp
   simp only [Act.put,sIb,sC0,sC1];refine zBA (i := 6) (oi := ⟨some 28,.move (.tmp 1),22, "zint.go:129",#[],none⟩) (v := (.slice (some ⟨b2,o2,none⟩) n c1)) rfl (by kernel_rfl) (fun _ _ _ h => h) (Or.inl ⟨by rfl,?_⟩) (KB.out _ GB.out) ?_
   ·intro w hSw;(try dsimp only at hSw);go_simp
   simp only [Act.put,sIb,sC0,sC1];refine zBA (i := 7) (oi := ⟨some 29,.move (.tmp 7),3, "zint.go:129",#[],none⟩) (v := (.int .i64 (i : Int))) rfl (by kernel_rfl) (fun _ _ _ h => h) (Or.inl ⟨by rfl,?_⟩) (KB.out _ GB.out) ?_
   ·intro w hSw;(try dsimp only at hSw);go_simp
   simp only [Act.put,sIb,sC0,sC1];refine zBA (i := 8) (oi := ⟨some 30,.indexAddr 22 (.tmp 28) (.tmp 29),0, "zint.go:129",#[⟨6,.data⟩,⟨7,.data⟩],none⟩) (v := (.pointer (some ⟨b2,o2 + i * 2,none⟩))) rfl (by kernel_rfl) (fun _ _ _ h => h) (Or.inl ⟨by rfl,?_⟩) (KB.out _ GB.out) ?_
   ·intro w hSw;(try dsimp only at hSw);go_simp
   simp only [Act.put,sIb,sC0,sC1];refine zBA (i := 9) (oi := ⟨some 31,.load 51 (.tmp 30),51, "zint.go:129",#[⟨8,.data⟩],none⟩) (v := (.agg #[.bool ng,.slice adg xg.length qg])) rfl (by kernel_rfl) (fun _ _ _ h => h) (Or.inl ⟨by rfl,?_⟩) (KB.out _ GB.out) ?_
   ·intro w hSw;(try dsimp only at hSw);go_simp
   simp only [Act.put,sIb,sC0,sC1];refine zAA (i := 10) (o := ⟨some 32,.call { callee := .value (.func 87),args := #[.tmp 27,.tmp 31],argTypes := #[51,51] },51, "zint.go:129",#[⟨5,.data⟩,⟨9,.data⟩],none⟩) (by kernel_rfl) rfl (fun K hK => ?_);go_simp;go_at_call 87;refine (HS.out _ GB.out).mono ?_;rintro e w2 ⟨r,rfl,m1,b⟩;have lz2 := (show Below _ _ _ from b).size;replace GB := hid (below_step GB.out b);have FI1 := hid (FI.out.step (below_step (w0 := wr) GBs.out b));have P41 := hid (P4.out.step (below_step (w0 := wr) GBs.out b));have G1 := hid (below_step G.out (below_step (w0 := wr) GBs.out b));have M1 := hid m1.zc;obtain ⟨nr,xr,ar,cr,rfl⟩ := m1.parts;rw [ZF.out (by rw [HN.out];exact hlt) (by rw [HE.out];exact hlt)] at M1;clear m1;clear b;refine hK.out _ _ (fun _ => KB.out _ GB.out) ?_;clear hK;refine zBA (i := 11) (oi := ⟨some 33,.indexAddr 22 (.tmp 22) (.tmp 23),0, "zint.go:129",#[⟨0,.data⟩,⟨1,.data⟩,⟨0,.phase⟩,⟨1,.phase⟩,⟨2,.phase⟩,⟨3,.phase⟩,⟨4,.phase⟩,⟨5,.phase⟩,⟨6,.phase⟩,⟨7,.phase⟩,⟨8,.phase⟩,⟨9,.phase⟩,⟨10,.phase⟩],none⟩) (v := (.pointer (some ⟨g,i * 2,none⟩))) rfl (by kernel_rfl) (fun _ _ _ h => h) (Or.inl ⟨by rfl,?_⟩) (KB.out _ GB.out) ?_
   ·intro w hSw;(try dsimp only at hSw);go_simp
   simp only [Act.put,sIb,sC0,sC1];refine zAA (i := 12) (o := ⟨none,.store 51 (.tmp 33) (.tmp 32),0, "zint.go:129",#[⟨11,.data⟩,⟨10,.data⟩,⟨10,.chain⟩,⟨0,.phase⟩,⟨1,.phase⟩,⟨2,.phase⟩,⟨3,.phase⟩,⟨4,.phase⟩,⟨5,.phase⟩,⟨6,.phase⟩,⟨7,.phase⟩,⟨8,.phase⟩,⟨9,.phase⟩,⟨10,.phase⟩],none⟩) (by kernel_rfl) rfl (fun K hK => ?_);obtain ⟨m0,am,lm,cm,e0,e1,e2,e3⟩ := FI1.out.cells hlt;go_simp;clear e0 e1 e2 e3;obtain ⟨V3,hW⟩ : ∃ V3,((w2.setCell ⟨g,i * 2,none⟩ (.bool nr)).setCell ⟨g,i * 2 + 1,none⟩ (.slice ar xr.length cr)) = V3 := ⟨_,rfl⟩
   have HN1 : Hid (DotH w g n (fun j => xs.getD j 0 * ys.getD j 0) (k + l) (n - (i + 1)) (.int .i64 ((i + 1 : Nat) : Int)) V3) := by
    unfold Hid;rw [← hW];exact ⟨i + 1,rfl,by omega,rfl,FI1.out.put hlt M1.out,P41.out.ne (by have := HGE.out;omega) |>.ne (by have := HGE.out;omega),bset (bset G1.out (by have := HGE.out;omega)) (by have := HGE.out;omega)⟩
   rw [hW];clear hW;refine hK.out _ _ (fun h => absurd h (by decide)) ?_;clear hK
   try simp only [Act.put]
   refine zDA (by kernel_rfl) ?_ _;have HMM : Hid (n - (i + 1) < gk) := by unfold Hid;rw [HG.out];omega
   clear HS FI P4 G HG FI1 P41 G1 M1 ZF GBs GB KB HGE;go_wp2_with fail;go_roundg (n - (i + 1))
   case rel => exact HN1.out
   case measure => exact HMM.out
  ·have hlt' : ¬ (i : Int) < (n : Int) := by omega
   obtain rfl : i = n := by omega
   obtain ⟨ps,p1,p2⟩ := FI.out.done (B := 0) (Nat.zero_le _) hn0;have HS := hid (sum_z (zqD p1 p2.zis) (by simp;omega));rw [← DV.out] at HS;simp only [List.length_map,List.length_range] at HS;clear p1 p2;go_wp2_with fail;refine HS.out.mono ?_;rintro e w1 ⟨r,rfl,m1,b⟩;have P41 := hid (P4.out.step b);have G1 := hid (below_step G.out b);have HM := hid (m1.mono G.out.size);obtain ⟨nr,xr,ar,cr,rfl⟩ := m1.parts;have r0 := P41.out.c0;have r1 := P41.out.c1;have f0 := P41.out.fz 0;have f1 := P41.out.fz 1;clear HS FI P4 G HG m1 b;go_wp2;exact bodyPost_ret (zWF Tryz.results90 (P41.out.set _ _) _ (by rfl) (by rfl)) rfl ⟨_,rfl,HM.out.box P41.out _ _,bset (bset G1.out (Nat.le_refl _)) (Nat.le_refl _)⟩
def Prr (B : Nat) (w : World) (v : Value) (pss : List (List (Value × Value))) : Prop :=
 ∃ a c,v = .slice a pss.length c ∧ pss.length ≤ c ∧ pss.length ≤ 1048576 ∧ (pss = [] ∨ ∃ b off,a = some ⟨b,off,none⟩ ∧ b < w.heap.size ∧ ∀ (j : Nat) (ps : List (Value × Value)),pss[j]? = some ps → ∃ u,w.cell? ⟨b,off + j,none⟩ = some u ∧ Prs B w u ps)
theorem Prr.now {B : Nat} {w w' : World} {v : Value} {pss : List (List (Value × Value))} (h : Prr B w v pss) (hb : Below w.heap.size w w') : Prr B w' v pss := by
 obtain ⟨a,c,h1,h2,h3,h4⟩ := h;refine ⟨a,c,h1,h2,h3,?_⟩;rcases h4 with h4 | ⟨b,off,h5,h6,h7⟩
 ·exact .inl h4
 ·refine .inr ⟨b,off,h5,Nat.lt_of_lt_of_le h6 hb.size,fun j ps hp => ?_⟩
  obtain ⟨u,q1,q2⟩ := h7 j ps hp;exact ⟨u,(hb.cell (p := ⟨b,off + j,none⟩) h6).trans q1,q2.now hb⟩
theorem Prr.form {B : Nat} {w : World} {v : Value} {pss : List (List (Value × Value))} (h : Prr B w v pss) : ∃ a c,v = .slice a pss.length c ∧ pss.length ≤ c ∧ pss.length ≤ 1048576 ∧ (pss ≠ [] → ∃ b off,a = some ⟨b,off,none⟩) := by
 obtain ⟨a,c,h1,h2,h3,h4⟩ := h;refine ⟨a,c,h1,h2,h3,fun hne => ?_⟩;rcases h4 with h4 | ⟨b,off,h5,h6,h7⟩
 ·exact absurd h4 hne
 ·exact ⟨b,off,h5⟩
theorem Prr.at {B : Nat} {w : World} {b off l c : Nat} {pss : List (List (Value × Value))} (h : Prr B w (.slice (some ⟨b,off,none⟩) l c) pss) {i : Nat} {ps : List (Value × Value)} (hi : pss[i]? = some ps) : ∃ u,w.cell? ⟨b,off + i,none⟩ = some u ∧ Prs B w u ps := by
 obtain ⟨a',c',h1,h2,h3,h4⟩ := h;rcases h4 with h4 | ⟨b',off',h5,h6,h7⟩
 ·subst h4;simp at hi
 ·simp only [Value.slice.injEq] at h1
  obtain ⟨rfl,-,-⟩ := h1;simp only [Option.some.injEq,Addr.mk.injEq,and_true] at h5;obtain ⟨rfl,rfl⟩ := h5;exact h7 i ps hi
theorem Prr.mono {B B' : Nat} {w : World} {v : Value} {pss : List (List (Value × Value))} (h : Prr B w v pss) (hB : B' ≤ B) : Prr B' w v pss := by
 obtain ⟨a,c,h1,h2,h3,h4⟩ := h;refine ⟨a,c,h1,h2,h3,?_⟩;rcases h4 with h4 | ⟨b,off,h5,h6,h7⟩
 ·exact .inl h4
 ·refine .inr ⟨b,off,h5,h6,fun j ps hp => ?_⟩
  obtain ⟨u,q1,q2⟩ := h7 j ps hp;exact ⟨u,q1,q2.mono hB⟩
def FilR (wx : World) (g n i : Nat) (P : Nat → Value → Prop) : Prop := ∃ vs,zbE wx g vs ∧ vs.length = n ∧ (∀ u ∈ vs,NoW u) ∧ ∀ (j : Nat) (u : Value),j < i → vs[j]? = some u → P j u
theorem FilR.start {w : World} {g n : Nat} (h : zbE w g (List.replicate n (.slice none 0 0))) (P : Nat → Value → Prop) : FilR w g n 0 P := ⟨_,h,by simp,(fun u hu => by rw [List.eq_of_mem_replicate hu];exact noS _ _ _),fun j u hj => by omega⟩
theorem FilR.put {w : World} {g n i : Nat} {P P' : Nat → Value → Prop} {x : Value} (h : FilR w g n i P) (hi : i < n) (hP : ∀ j u,j < i → P j u → P' j u) (hx : P' i x) (hn : NoW x) : FilR (w.setCell ⟨g,i,none⟩ x) g n (i + 1) P' := by
 obtain ⟨vs,h1,h2,hw,h3⟩ := h;refine ⟨vs.set i x,h1.set i x,by simpa using h2,(fun u hu => by
  rcases List.mem_or_eq_of_mem_set hu with q | rfl
  ·exact hw u q
  ·exact hn),fun j u hj hu => ?_⟩
 by_cases q : j = i
 ·subst q
  rw [List.getElem?_set_self (by omega),Option.some.injEq] at hu;subst hu;exact hx
 ·rw [List.getElem?_set_ne (by omega)] at hu
  exact hP j u (by omega) (h3 j u (by omega) hu)
theorem FilR.blk {w : World} {g n i : Nat} {P : Nat → Value → Prop} (h : FilR w g n i P) : g < w.heap.size := by
 obtain ⟨vs,h1,h2,hw,h3⟩ := h;exact h1.blk
theorem FilR.wk {w : World} {g n i j : Nat} {P : Nat → Value → Prop} (h : FilR w g n i P) (hj : j < n) (x : Value) : Wk w (w.setCell ⟨g,j,none⟩ x) := by
 obtain ⟨vs,h1,h2,hw,h3⟩ := h;exact h1.wk (List.getElem?_eq_getElem (by omega)) (hw _ (List.getElem_mem (l := vs) (n := j) (by omega))) x
theorem FilR.cells {w : World} {g n i j : Nat} {P : Nat → Value → Prop} (h : FilR w g n i P) (hj : j < n) : ∃ u,w.cell? ⟨g,j,none⟩ = some u ∧ w.frozen? ⟨g,j,none⟩ = false := by
 obtain ⟨vs,h1,h2,hw,h3⟩ := h;exact ⟨vs[j]'(by omega),h1.at (List.getElem?_eq_getElem (by omega)),h1.fz _⟩
theorem slice_mid (w : World) (b off n c lo hi : Nat) (h : lo ≤ hi) (h1 : hi ≤ c) (h2 : lo < c) : (Instr.slice 22 (.slice (some ⟨b,off,none⟩) n c) (some (.int .i64 (lo : Int))) (some (.int .i64 (hi : Int))) none).run Tryz.prog w = .ok (.slice (some ⟨b,off + 2 * lo,none⟩) (hi - lo) (c - lo)) w := by
 have i3 : (lo : Int) ≤ (hi : Int) := by omega
 have i1 : (0 : Int) ≤ (lo : Int) := by omega
 have i2 : (0 : Int) ≤ (hi : Int) := by omega
 have i5 : (hi : Int) ≤ (c : Int) := by omega
 have i4 : ¬ c = lo := by omega
 go_simp
theorem slice_zero (w : World) (a : Option Addr) (c : Nat) : (Instr.slice 22 (.slice a 0 c) (some (.int .i64 (0 : Int))) (some (.int .i64 (0 : Int))) none).run Tryz.prog w = .ok (.slice a 0 c) w := by
 have i5 : (0 : Int) ≤ (c : Int) := by omega
 rcases a with _ | ⟨b,off,sp⟩
 ·go_simp
 ·by_cases q : c = 0
  ·subst q;go_simp
  ·go_simp
def rowsL {α : Type} (r c : Nat) (ps : List α) : List (List α) := (List.range r).map fun i => (ps.drop (i * c)).take c
abbrev matv (r c : Nat) (at_ : Value) : Value := .agg #[.int .i64 (r : Int),.int .i64 (c : Int),at_]
abbrev matc (r c : Nat) (at_ : Value) : List Value := [.int .i64 (r : Int),.int .i64 (c : Int),at_]
theorem cut_row {B : Nat} {w : World} {a : Option Addr} {n cap r c i : Nat} {ps : List (Value × Value)} (h : Prs B w (.slice a n cap) ps) (hl : ps.length = r * c) (hi : i < r) :
  ∃ a' cap',(∀ wx,(Instr.slice 22 (.slice a n cap) (some (.int .i64 ((i * c : Nat) : Int))) (some (.int .i64 (((i + 1) * c : Nat) : Int))) none).run Tryz.prog wx = .ok (.slice a' c cap') wx) ∧ Prs B w (.slice a' c cap') ((ps.drop (i * c)).take c) := by
 have h0 := h;obtain ⟨a',c',h1,h2,h3,-,h4⟩ := h;simp only [Value.slice.injEq] at h1;obtain ⟨rfl,rfl,rfl⟩ := h1
 by_cases hc : c = 0
 ·subst hc
  have e0 : ps = [] := List.eq_nil_of_length_eq_zero (by simpa using hl);subst e0;refine ⟨a,cap,fun wx => ?_,?_⟩
  ·simpa using slice_zero wx a cap
  ·simpa using h0
 ·rcases h4 with rfl | ⟨b,off,rfl,h5',h6,h7⟩
  ·rcases Nat.mul_eq_zero.1 (show r * c = 0 by simpa using hl.symm) with q | q <;> omega
  ·have e1 : (i + 1) * c ≤ r * c := Nat.mul_le_mul_right c hi
   have e2 : (i + 1) * c = i * c + c := by rw [Nat.add_mul,Nat.one_mul]
   refine ⟨some ⟨b,off + i * c * 2,none⟩,cap - i * c,fun wx => ?_,h0.piece (by omega)⟩;have := slice_mid wx b off ps.length cap (i * c) ((i + 1) * c) (by omega) (by omega) (by omega);rw [show (i + 1) * c - i * c = c by omega,Nat.mul_comm 2] at this;exact this
def zZH (w0 w : World) (B : Nat) (at_ : Value) (g r c : Nat) (ps : List (Value × Value)) (gk : Nat) (s : Value) (wx : World) : Prop :=
 ∃ i : Nat,s = .int .i64 (i : Int) ∧ i ≤ r ∧ gk = r - i ∧ FilR wx g r i (fun j u => Prs B w0 u ((ps.drop (j * c)).take c)) ∧ Cel wx w.heap.size 24 (matc r c at_) ∧ Below w.heap.size w wx
def zKH (w0 w : World) (B r c : Nat) (ps : List (Value × Value)) (e : Ending) (w' : World) : Prop := ∃ g,e = .returned (.slice (some ⟨g,0,none⟩) r r) ∧ w.heap.size ≤ g ∧ g < w'.heap.size ∧ (∀ i,i < r → ∃ ai ci,w'.cell? ⟨g,i,none⟩ = some (.slice ai c ci) ∧ Prs B w0 (.slice ai c ci) ((ps.drop (i * c)).take c)) ∧ Below w.heap.size w w'
def zrH (w : World) (B : Nat) (pss : List (List (Value × Value))) (e : Ending) (w' : World) : Prop := ∃ u,e = .returned u ∧ Prr B w' u pss ∧ Below w.heap.size w w'
theorem zXF {i c : Nat} (hi : i ≤ 64) (hc : c ≤ 64) : IntKind.i64.wrap ((i : Int) * (c : Int)) = ((i * c : Nat) : Int) := by
 have h : i * c ≤ 64 * 64 := Nat.mul_le_mul hi hc;rw [show (i : Int) * (c : Int) = ((i * c : Nat) : Int) by simp];rw [zfA] <;> omega
theorem zkE {w0 w : World} {B r c : Nat} {at_ : Value} {ps : List (Value × Value)} (ha : Prs B w0 at_ ps) (hl : ps.length = r * c) (hr : r ≤ 64) (hc : c ≤ 64) :
  Calls Tryz.prog 75 #[matv r c at_] w (zKH w0 w B r c ps) := by
 have A0 := hid ha;obtain ⟨a0,c0,rfl,hc0,hn0,-,hf0⟩ := ha.form;obtain ⟨n,hn⟩ : ∃ n,ps.length = n := ⟨_,rfl⟩
 have HL := hid hl;rw [hn] at A0 hc0 hn0 ⊢;clear ha hf0 hl hn;obtain ⟨W0,hW⟩ : ∃ W0,w.alloc (.cells #[.int .i64 (r : Int),.int .i64 (c : Int),.slice a0 n c0] 24) = W0 := ⟨_,rfl⟩
 obtain ⟨b0,sz0⟩ := alo1 w (.cells #[.int .i64 (r : Int),.int .i64 (c : Int),.slice a0 n c0] 24);rw [hW] at b0 sz0;have P1 : Hid (Cel W0 w.heap.size 24 (matc r c (.slice a0 n c0))) := by unfold Hid;rw [← hW];exact Cel.new w _ _
 have c1 : (w.alloc (.cells #[.int .i64 (r : Int),.int .i64 (c : Int),.slice a0 n c0] 24)).cell? ⟨w.heap.size,0,none⟩ = some (.int .i64 (r : Int)) := by rw [hW];exact P1.out.at (i := 0) rfl
 have G0 := hid b0;have EW := hid hW;have SZ := hid sz0;clear b0 hW sz0;go_enter Tryz.func75,Tryz.ntmps75;go_wp2_with (at_make;rw [EW.out];refine zjB _ rfl _ _ rfl _ _ r r rfl rfl rfl rfl (Nat.le_refl _) (by omega) ?_)
 intro w1 hrow hb1 hsz1;have H0 : Hid (zZH w0 w B (.slice a0 n c0) W0.heap.size r c ps r (.int .i64 0) w1) := ⟨0,rfl,Nat.zero_le _,by omega,FilR.start hrow _,P1.out.step hb1,below_step G0.out hb1⟩
 have HGE : Hid (w.heap.size < W0.heap.size) := by unfold Hid;rw [SZ.out];omega
 clear hrow hb1 hsz1 P1 G0 EW SZ c1;generalize W0.heap.size = g at *;go_wp2_with fail
 go_loopg [10] r (fun gk s10 wx => zZH w0 w B (.slice a0 n c0) g r c ps gk s10 wx)
 case atStart => exact H0.out
 case round =>
  clear H0;obtain ⟨i,rfl,hin,hg,hfil,hcel,hG⟩ := hrel;have FI := hid hfil;have P1 := hid hcel;have G := hid hG;have HG := hid hg;clear hfil hcel hG hg
  by_cases hlt : i < r
  ·have hlt' : (i : Int) < (r : Int) := by omega
   obtain ⟨a',cap',hs,hp⟩ := cut_row (i := i) (c := c) A0.out HL.out hlt;have HP := hid hp;have hw := zVA (i := i) (by omega);have hm0 := zXF (i := i) (c := c) (by omega) hc;have hm1 := zXF (i := i + 1) (c := c) (by omega) hc;rw [show ((i + 1 : Nat) : Int) = (i : Int) + 1 by omega] at hm1;have HN1 : Hid (zZH w0 w B (.slice a0 n c0) g r c ps (r - (i + 1)) (.int .i64 ((i + 1 : Nat) : Int)) (wr.setCell ⟨g,i,none⟩ (.slice a' c cap'))) :=
    ⟨i + 1,rfl,by omega,rfl,FI.out.put hlt (fun j u _ q => q) HP.out (noS _ _ _),P1.out.ne (by have := HGE.out;omega),bset G.out (by have := HGE.out;omega)⟩
   clear hp HP;generalize i * c = lo at *;generalize (i + 1) * c = hi at *;have hm2 := hm0;have hm3 := hm1;rw [IntKind.wrap_i64] at hm2 hm3;have k1 := P1.out.at (i := 1) rfl;have k2 := P1.out.at (i := 2) rfl;obtain ⟨u0,e0,e1⟩ := FI.out.cells hlt;have HMM : Hid (r - (i + 1) < gk) := by unfold Hid;rw [HG.out];omega
   clear FI P1 G HG;go_wp2_with fail;go_roundg (r - (i + 1))
   case rel => exact HN1.out
   case measure => exact HMM.out
  ·have hlt' : ¬ (i : Int) < (r : Int) := by omega
   obtain rfl : i = r := by omega
   have FIN : Hid (zKH w0 w B i c ps (.returned (.slice (some ⟨g,0,none⟩) i i)) wr) := by
    refine ⟨g,rfl,Nat.le_of_lt HGE.out,FI.out.blk,fun j hj => ?_,G.out⟩;obtain ⟨vs,h1,h2,-,h3⟩ := FI.out;have hv : vs[j]? = some (vs[j]'(by omega)) := List.getElem?_eq_getElem (by omega);have hp := h3 j _ hj hv;obtain ⟨aj,cj,ej,-,-,-,-⟩ := hp.form;have el : ((ps.drop (j * c)).take c).length = c := by
     have h5 : (j + 1) * c ≤ i * c := Nat.mul_le_mul_right c hj;have h6 : (j + 1) * c = j * c + c := by rw [Nat.add_mul,Nat.one_mul]
     have h7 := HL.out
     simp
     omega
    rw [el] at ej;refine ⟨aj,cj,?_,?_⟩
    ·rw [h1.at hv,ej]
    ·rw [ej] at hp;exact hp
   clear FI P1 G HG;go_wp2;go_ret;exact FIN.out
end Go.Proofs.YtbcgggadelnaaaaGreat
