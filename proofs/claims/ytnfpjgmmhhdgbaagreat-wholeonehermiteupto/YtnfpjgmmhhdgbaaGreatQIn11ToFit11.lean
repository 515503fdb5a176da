/-
 QIn11ToFit11: In11, Fit11, joined.
-/
import Derived.Test.YtnfpjgmmhhdgbaaGreatQNeg11ToAdd11
import Derived.Test.YtnfpjgmmhhdgbaaGreatQMat11
import Derived.Handy

set_option maxRecDepth 100000
set_option maxHeartbeats 6400000
set_option linter.unusedVariables false
set_option linter.unusedSimpArgs false
namespace Go.Proofs.YtnfpjgmmhhdgbaaGreat
open Go.RowKit
structure Rs where
 kind : Int
 i : Int
 j : Int
 z : Int
def Rs.fit (n : Nat) (s : Rs) : Prop := (s.kind = 1 ∧ (0 ≤ s.i ∧ s.i < n) ∧ (0 ≤ s.j ∧ s.j < n)) ∨ (s.kind = 2 ∧ (0 ≤ s.i ∧ s.i < n)) ∨ (s.kind = 3 ∧ (0 ≤ s.i ∧ s.i < n) ∧ (0 ≤ s.j ∧ s.j < n) ∧ s.i ≠ s.j)
instance (n : Nat) (s : Rs) : Decidable (s.fit n) := by unfold Rs.fit;infer_instance
def Rs.st (s : Rs) : St := if s.kind = 1 then .swap s.i.toNat s.j.toNat else if s.kind = 2 then .neg s.i.toNat else .add s.i.toNat s.j.toNat s.z
theorem Rs.st_fit {n : Nat} {s : Rs} (h : s.fit n) : s.st.fit n := by
 unfold Rs.st;rcases h with ⟨h1,h2,h3⟩ | ⟨h1,h2⟩ | ⟨h1,h2,h3,h4⟩
 ·rw [if_pos h1];exact ⟨by omega,by omega⟩
 ·rw [if_neg (by omega),if_pos h1];show s.i.toNat < n;omega
 ·rw [if_neg (by omega),if_neg (by omega)];exact ⟨by omega,by omega,by omega⟩
def Ofd (w : World) (v : Value) (s : Rs) (k : Nat) : Prop :=
 (s.kind = 1 ∧ v = .iface 153 (.agg #[.int .i64 s.i,.int .i64 s.j])) ∨ (s.kind = 2 ∧ v = .iface 155 (.agg #[.int .i64 s.i])) ∨
 (s.kind = 3 ∧ ∃ nv av lv cv,v = .iface 157 (.agg #[.int .i64 s.i,.int .i64 s.j,.bool nv,.slice av lv cv]) ∧ Zm 0 w (.agg #[.bool nv,.slice av lv cv]) s.z k) ∨
 ((s.kind ≠ 1 ∧ s.kind ≠ 2 ∧ s.kind ≠ 3) ∧ v = .nilIface)
def zNG (w : World) (s : Rs) (k : Nat) (e : Ending) (w' : World) : Prop := ∃ v,e = .returned v ∧ Ofd w' v s k ∧ Below w.heap.size w w'
abbrev stO (s : Rs) (nv : Bool) (av : Option Addr) (lv cv : Nat) : Obj := .cells #[.int .i64 s.kind,.int .i64 s.i,.int .i64 s.j,.bool nv,.slice av lv cv] 127
abbrev stV (s : Rs) (nv : Bool) (av : Option Addr) (lv cv : Nat) : Value := .agg #[.int .i64 s.kind,.int .i64 s.i,.int .i64 s.j,.bool nv,.slice av lv cv]
theorem ztG {w : World} {s : Rs} {nv : Bool} {av : Option Addr} {lv cv k : Nat} (hz : Zi w (.agg #[.bool nv,.slice av lv cv]) s.z k) : Calls Tryz.prog 81 #[stV s nv av lv cv] w (zNG w s k) := by
 obtain ⟨W0,hW⟩ : ∃ W0,w.alloc (stO s nv av lv cv) = W0 := ⟨_,rfl⟩
 obtain ⟨b0,sz0⟩ := alo1 w (stO s nv av lv cv);rw [hW] at b0 sz0;have P1 : Hid (Cel W0 w.heap.size 127 [.int .i64 s.kind,.int .i64 s.i,.int .i64 s.j,.bool nv,.slice av lv cv]) := by unfold Hid;rw [← hW];exact Cel.new w _ _
 have x0 := P1.out.at (i := 0) rfl;have x1 := P1.out.at (i := 1) rfl;have x2 := P1.out.at (i := 2) rfl;have G0 := hid b0;have ZK := hid (hz.now b0);have EW := hid hW
 by_cases h1 : s.kind = 1
 ·have FIN : Hid (zNG w s k (.returned (.iface 153 (.agg #[.int .i64 s.i,.int .i64 s.j]))) W0) := ⟨_,rfl,.inl ⟨h1,rfl⟩,b0⟩
  rw [← hW] at x0 x1 x2;clear hz b0 sz0 hW P1 ZK G0;obtain ⟨kd,i,j,z⟩ := s;dsimp only at h1 x0 x1 x2;subst h1;go_enter Tryz.func81,Tryz.ntmps81;go_wp2;rw [EW.out];go_ret;exact FIN.out
 ·by_cases h2 : s.kind = 2
  ·have FIN : Hid (zNG w s k (.returned (.iface 155 (.agg #[.int .i64 s.i]))) W0) := ⟨_,rfl,.inr (.inl ⟨h2,rfl⟩),b0⟩
   rw [← hW] at x0 x1 x2;clear hz b0 sz0 hW P1 ZK G0 h1;obtain ⟨kd,i,j,z⟩ := s;dsimp only at h2 x0 x1 x2;subst h2;go_enter Tryz.func81,Tryz.ntmps81;go_wp2;rw [EW.out];go_ret;exact FIN.out
  ·by_cases h3 : s.kind = 3
   ·have x3 := P1.out.at (i := 3) rfl
    have x4 := P1.out.at (i := 4) rfl;have y0 := x0;rw [← hW] at y0;clear hz b0 sz0 hW P1 h1 h2;obtain ⟨kd,i,j,z⟩ := s;dsimp only at h3 x0 x1 x2 y0;subst h3;go_enter Tryz.func81,Tryz.ntmps81;go_wp2_with fail;rw [EW.out];clear EW y0 x0;have KB : Hid (∀ w',Below W0.heap.size W0 w' → w'.cell? ⟨w.heap.size,1,none⟩ = some (.int .i64 i) ∧ w'.cell? ⟨w.heap.size,2,none⟩ = some (.int .i64 j) ∧ w'.cell? ⟨w.heap.size,3,none⟩ = some (.bool nv) ∧ w'.cell? ⟨w.heap.size,4,none⟩ = some (.slice av lv cv)) := fun w' h => ⟨cnow h x1,cnow h x2,cnow h x3,cnow h x4⟩
    refine zEA (fun w' => w'.cell? ⟨w.heap.size,1,none⟩ = some (.int .i64 i) ∧ w'.cell? ⟨w.heap.size,2,none⟩ = some (.int .i64 j) ∧ w'.cell? ⟨w.heap.size,3,none⟩ = some (.bool nv) ∧ w'.cell? ⟨w.heap.size,4,none⟩ = some (.slice av lv cv)) 9 (by kernel_rfl) ?_;obtain ⟨D1,hD⟩ : ∃ D1,W0.drew = D1 := ⟨_,rfl⟩
    have GB : Hid (Below W0.heap.size W0 D1) := by unfold Hid;rw [← hD];exact (Below.refl _ _).drew
    rw [hD];clear hD;refine zBA (i := 0) (oi := ⟨some 21,.fieldAddr 127 (.tmp 1) 1,0, "kinds.go:81",#[],none⟩) (v := (.pointer (some ⟨w.heap.size,1,none⟩))) rfl (by kernel_rfl) (fun _ _ _ h => h) (Or.inl ⟨by rfl,?_⟩) (KB.out _ GB.out) ?_
    ·intro w hSw;(try dsimp only at hSw);go_simp
    simp only [Act.put,sIb,sC0,sC1];refine zBA (i := 1) (oi := ⟨some 22,.load 3 (.tmp 21),3, "kinds.go:81",#[⟨0,.data⟩],none⟩) (v := (.int .i64 i)) rfl (by kernel_rfl) (fun _ _ _ h => h) (Or.inl ⟨by rfl,?_⟩) (KB.out _ GB.out) ?_
    ·intro w hSw;(try dsimp only at hSw);go_simp
    simp only [Act.put,sIb,sC0,sC1];refine zBA (i := 2) (oi := ⟨some 23,.fieldAddr 127 (.tmp 1) 2,0, "kinds.go:81",#[],none⟩) (v := (.pointer (some ⟨w.heap.size,2,none⟩))) rfl (by kernel_rfl) (fun _ _ _ h => h) (Or.inl ⟨by rfl,?_⟩) (KB.out _ GB.out) ?_
    ·intro w hSw;(try dsimp only at hSw);go_simp
    simp only [Act.put,sIb,sC0,sC1];refine zBA (i := 3) (oi := ⟨some 24,.load 3 (.tmp 23),3, "kinds.go:81",#[⟨2,.data⟩],none⟩) (v := (.int .i64 j)) rfl (by kernel_rfl) (fun _ _ _ h => h) (Or.inl ⟨by rfl,?_⟩) (KB.out _ GB.out) ?_
    ·intro w hSw;(try dsimp only at hSw);go_simp
    simp only [Act.put,sIb,sC0,sC1];refine zBA (i := 4) (oi := ⟨some 25,.fieldAddr 127 (.tmp 1) 3,0, "kinds.go:81",#[],none⟩) (v := (.pointer (some ⟨w.heap.size,3,none⟩))) rfl (by kernel_rfl) (fun _ _ _ h => h) (Or.inl ⟨by rfl,?_⟩) (KB.out _ GB.out) ?_
    ·intro w hSw;(try dsimp only at hSw);go_simp
    simp only [Act.put,sIb,sC0,sC1];refine zBA (i := 5) (oi := ⟨some 26,.load 51 (.tmp 25),51, "kinds.go:81",#[⟨4,.data⟩],none⟩) (v := (.agg #[.bool nv,.slice av lv cv])) rfl (by kernel_rfl) (fun _ _ _ h => h) (Or.inl ⟨by rfl,?_⟩) (KB.out _ GB.out) ?_
    ·intro w hSw;(try dsimp only at hSw);go_simp
    simp only [Act.put,sIb,sC0,sC1];refine zAA (i := 6) (o := ⟨some 27,.call { callee := .value (.func 21),args := #[.tmp 26],argTypes := #[51] },51, "kinds.go:81",#[⟨5,.data⟩],none⟩) (by kernel_rfl) rfl (fun K hK => ?_);go_simp;go_at_call 21;refine (zGE (ZK.out.now GB.out)).mono ?_;rintro e w2 ⟨r,rfl,m1,b⟩;have lz2 := (show Below _ _ _ from b).size;replace GB := hid (below_step GB.out b);have M1 := hid (m1.mono (Nat.zero_le _));obtain ⟨nr,xr,ar,cr,rfl⟩ := m1.parts;clear m1;clear b;refine hK.out _ _ (fun _ => KB.out _ GB.out) ?_;clear hK;refine zBA (i := 7) (oi := ⟨some 28,.build 157 #[(0,.tmp 22),(1,.tmp 24),(2,.tmp 27)],157, "kinds.go:81",#[⟨1,.data⟩,⟨3,.data⟩,⟨6,.data⟩],none⟩) (v := (.agg #[.int .i64 i,.int .i64 j,.bool nr,.slice ar xr.length cr])) rfl (by kernel_rfl) (fun _ _ _ h => h) (Or.inl ⟨by rfl,?_⟩) (KB.out _ GB.out) ?_
    ·intro w hSw;(try dsimp only at hSw);go_simp
    simp only [Act.put,sIb,sC0,sC1];refine zBA (i := 8) (oi := ⟨some 29,.makeInterface 157 (.tmp 28),90, "kinds.go:81",#[⟨7,.data⟩],none⟩) (v := (.iface 157 (.agg #[.int .i64 i,.int .i64 j,.bool nr,.slice ar xr.length cr]))) rfl (by kernel_rfl) (fun _ _ _ h => h) (Or.inl ⟨by rfl,?_⟩) (KB.out _ GB.out) ?_
    ·intro w hSw;(try dsimp only at hSw);go_simp
    simp only [Act.put,sIb,sC0,sC1];refine zAA (i := 9) (o := ⟨some 2,.assign (.tmp 29),90, "kinds.go:81",#[⟨8,.data⟩,⟨6,.chain⟩,⟨0,.phase⟩,⟨1,.phase⟩,⟨2,.phase⟩,⟨3,.phase⟩,⟨4,.phase⟩,⟨5,.phase⟩,⟨6,.phase⟩,⟨7,.phase⟩,⟨8,.phase⟩],none⟩) (by kernel_rfl) rfl (fun K hK => ?_);go_simp;refine hK.out _ _ (fun h => absurd h (by decide)) ?_;clear hK
    try simp only [Act.put]
    refine zDA (by kernel_rfl) ?_ _;have FIN : Hid (zNG w ⟨3,i,j,z⟩ k (.returned (.iface 157 (.agg #[.int .i64 i,.int .i64 j,.bool nr,.slice ar xr.length cr]))) w2) := ⟨_,rfl,.inr (.inr (.inl ⟨rfl,_,_,_,_,rfl,M1.out⟩)),below_step G0.out GB.out⟩
    clear M1 G0 GB KB ZK x1 x2 x3 x4;go_wp2;go_ret;exact FIN.out
   ·have FIN : Hid (zNG w s k (.returned .nilIface) W0) := ⟨_,rfl,.inr (.inr (.inr ⟨⟨h1,h2,h3⟩,rfl⟩)),b0⟩
    rw [← hW] at x0 x1 x2;have e1 : (s.kind == 1) = false := by simpa using h1
    have e2 : (s.kind == 2) = false := by simpa using h2
    have e3 : (s.kind == 3) = false := by simpa using h3
    clear hz b0 sz0 hW P1 ZK G0;go_enter Tryz.func81,Tryz.ntmps81;go_wp2;rw [EW.out];go_ret;exact FIN.out
theorem zQB {w : World} {i n : Int} : Calls Tryz.prog 177 #[.int .i64 i,.int .i64 n] w fun e w' => e = .returned (.bool (decide (0 ≤ i ∧ i < n))) ∧ w' = w := by
 by_cases h1 : 0 ≤ i
 ·have e : decide (0 ≤ i ∧ i < n) = decide (i < n) := by simp [h1]
  rw [e];clear e;go_enter Tryz.func177,Tryz.ntmps177;go_wp2;go_ret;exact ⟨rfl,rfl⟩
 ·have e : decide (0 ≤ i ∧ i < n) = false := by simp [h1]
  rw [e];clear e;go_enter Tryz.func177,Tryz.ntmps177;go_wp2;go_ret;exact ⟨rfl,rfl⟩
theorem fits_swap {w : World} {i j n : Int} : Calls Tryz.prog 175 #[.agg #[.int .i64 i,.int .i64 j],.int .i64 n] w fun e w' => e = .returned (.bool (decide ((0 ≤ i ∧ i < n) ∧ (0 ≤ j ∧ j < n)))) ∧ Below w.heap.size w w' := by
 obtain ⟨W0,hW⟩ : ∃ W0,w.alloc (.cells #[.int .i64 i,.int .i64 j] 153) = W0 := ⟨_,rfl⟩
 obtain ⟨b0,sz0⟩ := alo1 w (.cells #[.int .i64 i,.int .i64 j] 153);rw [hW] at b0 sz0;have P1 : Hid (Cel W0 w.heap.size 153 [.int .i64 i,.int .i64 j]) := by unfold Hid;rw [← hW];exact Cel.new w _ _
 have x0 := P1.out.at (i := 0) rfl;have x1 := P1.out.at (i := 1) rfl;have G0 := hid b0;have EW := hid hW;have y0 := x0;rw [← hW] at y0;clear b0 sz0 hW P1;have H1 := hid (zQB (w := W0) (i := i) (n := n));have H2 := hid (zQB (w := W0) (i := j) (n := n))
 by_cases h1 : 0 ≤ i ∧ i < n
 ·have e : decide ((0 ≤ i ∧ i < n) ∧ (0 ≤ j ∧ j < n)) = decide (0 ≤ j ∧ j < n) := by simp [h1]
  rw [e];rw [decide_eq_true h1] at H1;clear e h1;generalize decide (0 ≤ j ∧ j < n) = d at *;go_enter Tryz.func175,Tryz.ntmps175;go_wp2_with fail;rw [EW.out];refine H1.out.mono ?_;rintro e w1 ⟨rfl,hw⟩;have hw' := hw.symm;subst hw';go_wp2_with fail;refine H2.out.mono ?_;rintro e w2 ⟨rfl,hw2⟩;have hw2' := hw2.symm;subst hw2';go_wp2;go_ret;exact ⟨rfl,G0.out⟩
 ·have e : decide ((0 ≤ i ∧ i < n) ∧ (0 ≤ j ∧ j < n)) = false := by simp only [decide_eq_false_iff_not];exact fun h => h1 h.1
  rw [e];rw [decide_eq_false h1] at H1;clear e h1;go_enter Tryz.func175,Tryz.ntmps175;go_wp2_with fail;rw [EW.out];refine H1.out.mono ?_;rintro e w1 ⟨rfl,hw⟩;have hw' := hw.symm;subst hw';go_wp2;go_ret;exact ⟨rfl,G0.out⟩
theorem fits_neg {w : World} {i n : Int} : Calls Tryz.prog 180 #[.agg #[.int .i64 i],.int .i64 n] w fun e w' => e = .returned (.bool (decide (0 ≤ i ∧ i < n))) ∧ Below w.heap.size w w' := by
 obtain ⟨W0,hW⟩ : ∃ W0,w.alloc (.cells #[.int .i64 i] 155) = W0 := ⟨_,rfl⟩
 obtain ⟨b0,sz0⟩ := alo1 w (.cells #[.int .i64 i] 155);rw [hW] at b0 sz0;have P1 : Hid (Cel W0 w.heap.size 155 [.int .i64 i]) := by unfold Hid;rw [← hW];exact Cel.new w _ _
 have x0 := P1.out.at (i := 0) rfl;rw [← hW] at x0;have G0 := hid b0;have EW := hid hW;have H1 := hid (zQB (w := W0) (i := i) (n := n));clear b0 sz0 hW P1;generalize decide (0 ≤ i ∧ i < n) = d at *;go_enter Tryz.func180,Tryz.ntmps180;go_wp2_with fail;rw [EW.out];refine H1.out.mono ?_;rintro e w1 ⟨rfl,hw⟩;have hw' := hw.symm;subst hw';go_wp2;go_ret;exact ⟨rfl,G0.out⟩
theorem fits_add {w : World} {i j n : Int} {nv : Bool} {av : Option Addr} {lv cv : Nat} : Calls Tryz.prog 184 #[.agg #[.int .i64 i,.int .i64 j,.bool nv,.slice av lv cv],.int .i64 n] w fun e w' => e = .returned (.bool (decide ((0 ≤ i ∧ i < n) ∧ (0 ≤ j ∧ j < n) ∧ i ≠ j))) ∧ Below w.heap.size w w' := by
 obtain ⟨W0,hW⟩ : ∃ W0,w.alloc (.cells #[.int .i64 i,.int .i64 j,.bool nv,.slice av lv cv] 157) = W0 := ⟨_,rfl⟩
 obtain ⟨b0,sz0⟩ := alo1 w (.cells #[.int .i64 i,.int .i64 j,.bool nv,.slice av lv cv] 157);rw [hW] at b0 sz0;have P1 : Hid (Cel W0 w.heap.size 157 [.int .i64 i,.int .i64 j,.bool nv,.slice av lv cv]) := by unfold Hid;rw [← hW];exact Cel.new w _ _
 have x0 := P1.out.at (i := 0) rfl;have x1 := P1.out.at (i := 1) rfl;have G0 := hid b0;have EW := hid hW;have y0 := x0;rw [← hW] at y0;clear b0 sz0 hW P1;have H1 := hid (zQB (w := W0) (i := i) (n := n));have H2 := hid (zQB (w := W0) (i := j) (n := n))
 by_cases h1 : 0 ≤ i ∧ i < n
 ·rw [decide_eq_true h1] at H1
  by_cases h2 : 0 ≤ j ∧ j < n
  ·have e : decide ((0 ≤ i ∧ i < n) ∧ (0 ≤ j ∧ j < n) ∧ i ≠ j) = (i != j) := by
    by_cases q : i = j
    ·subst q;simp
    ·simp [h1,h2,q]
   rw [e];rw [decide_eq_true h2] at H2;clear e h1 h2;go_enter Tryz.func184,Tryz.ntmps184;go_wp2_with fail;rw [EW.out];refine H1.out.mono ?_;rintro e w1 ⟨rfl,hw⟩;have hw' := hw.symm;subst hw';go_wp2_with fail;refine H2.out.mono ?_;rintro e w2 ⟨rfl,hw2⟩;have hw2' := hw2.symm;subst hw2';go_wp2;go_ret;exact ⟨rfl,G0.out⟩
  ·have e : decide ((0 ≤ i ∧ i < n) ∧ (0 ≤ j ∧ j < n) ∧ i ≠ j) = false := by simp only [decide_eq_false_iff_not];exact fun h => h2 h.2.1
   rw [e];rw [decide_eq_false h2] at H2;clear e h1 h2;go_enter Tryz.func184,Tryz.ntmps184;go_wp2_with fail;rw [EW.out];refine H1.out.mono ?_;rintro e w1 ⟨rfl,hw⟩;have hw' := hw.symm;subst hw';go_wp2_with fail;refine H2.out.mono ?_;rintro e w2 ⟨rfl,hw2⟩;have hw2' := hw2.symm;subst hw2';go_wp2;go_ret;exact ⟨rfl,G0.out⟩
 ·have e : decide ((0 ≤ i ∧ i < n) ∧ (0 ≤ j ∧ j < n) ∧ i ≠ j) = false := by simp only [decide_eq_false_iff_not];exact fun h => h1 h.1
  rw [e];rw [decide_eq_false h1] at H1;clear e h1;go_enter Tryz.func184,Tryz.ntmps184;go_wp2_with fail;rw [EW.out];refine H1.out.mono ?_;rintro e w1 ⟨rfl,hw⟩;have hw' := hw.symm;subst hw';go_wp2;go_ret;exact ⟨rfl,G0.out⟩
theorem isFit_any {w : World} {n : Nat} {s : Rs} {nv : Bool} {av : Option Addr} {lv cv k : Nat} (hz : Zi w (.agg #[.bool nv,.slice av lv cv]) s.z k) :
  Calls Tryz.prog 108 #[.int .i64 (n : Int),stV s nv av lv cv] w fun e w' => e = .returned (.bool (decide (s.fit n))) ∧ Below w.heap.size w w' := by
 obtain ⟨W0,hW⟩ : ∃ W0,w.alloc (stO s nv av lv cv) = W0 := ⟨_,rfl⟩
 obtain ⟨b0,sz0⟩ := alo1 w (stO s nv av lv cv);rw [hW] at b0 sz0;have P1 : Hid (Cel W0 w.heap.size 127 [.int .i64 s.kind,.int .i64 s.i,.int .i64 s.j,.bool nv,.slice av lv cv]) := by unfold Hid;rw [← hW];exact Cel.new w _ _
 have x0 := P1.out.at (i := 0) rfl;have x1 := P1.out.at (i := 1) rfl;have x2 := P1.out.at (i := 2) rfl;have x3 := P1.out.at (i := 3) rfl;have x4 := P1.out.at (i := 4) rfl;rw [← hW] at x0 x1 x2 x3 x4;have HO := hid (ztG (hz.now b0));have G0 := hid b0;have EW := hid hW;clear hz b0 sz0 hW P1;obtain ⟨d,hd⟩ : ∃ d,decide (s.fit n) = d := ⟨_,rfl⟩
 rw [hd];have HD := hid hd;clear hd;go_enter Tryz.func108,Tryz.ntmps108;go_wp2_with fail;rw [EW.out];refine HO.out.mono ?_;rintro e w1 ⟨v,rfl,ho,b⟩;have G1 := hid (below_step G0.out b);clear HO b x0 x1 x2 x3 x4 EW G0;rcases ho with ⟨h,rfl⟩ | ⟨h,rfl⟩ | ⟨h,nr,ar,lr,cr,rfl,-⟩ | ⟨h,rfl⟩
 ·have e : d = decide ((0 ≤ s.i ∧ s.i < (n : Int)) ∧ (0 ≤ s.j ∧ s.j < (n : Int))) := by
   rw [← HD.out]
   apply decide_eq_decide.2
   unfold Rs.fit;omega
  have HF := hid (fits_swap (w := w1) (i := s.i) (j := s.j) (n := (n : Int)));rw [← e] at HF;clear e h HD;go_wp2_with fail;refine HF.out.mono ?_;rintro e w2 ⟨rfl,b⟩;have G2 := hid (below_step G1.out b);clear b;go_wp2;go_ret;exact ⟨rfl,G2.out⟩
 ·have e : d = decide (0 ≤ s.i ∧ s.i < (n : Int)) := by
   rw [← HD.out]
   apply decide_eq_decide.2
   unfold Rs.fit;omega
  have HF := hid (fits_neg (w := w1) (i := s.i) (n := (n : Int)));rw [← e] at HF;clear e h HD;go_wp2_with fail;refine HF.out.mono ?_;rintro e w2 ⟨rfl,b⟩;have G2 := hid (below_step G1.out b);clear b;go_wp2;go_ret;exact ⟨rfl,G2.out⟩
 ·have e : d = decide ((0 ≤ s.i ∧ s.i < (n : Int)) ∧ (0 ≤ s.j ∧ s.j < (n : Int)) ∧ s.i ≠ s.j) := by
   rw [← HD.out]
   apply decide_eq_decide.2
   unfold Rs.fit;omega
  have HF := hid (fits_add (w := w1) (i := s.i) (j := s.j) (n := (n : Int)) (nv := nr) (av := ar) (lv := lr) (cv := cr));rw [← e] at HF;clear e h HD;go_wp2_with fail;refine HF.out.mono ?_;rintro e w2 ⟨rfl,b⟩;have G2 := hid (below_step G1.out b);clear b;go_wp2;go_ret;exact ⟨rfl,G2.out⟩
 ·have e : d = false := by
   rw [← HD.out]
   apply decide_eq_false
   unfold Rs.fit;omega
  subst e;clear h HD;go_wp2;go_ret;exact ⟨rfl,G1.out⟩
end Go.Proofs.YtnfpjgmmhhdgbaaGreat
