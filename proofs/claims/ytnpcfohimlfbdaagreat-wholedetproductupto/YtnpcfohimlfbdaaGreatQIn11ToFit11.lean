/-
 QIn11ToFit11: In11, Fit11, joined.
-/
import Derived.Test.YtnpcfohimlfbdaaGreatQNeg11ToAdd11
import Derived.Test.YtnpcfohimlfbdaaGreatQMat11
import Derived.Handy

set_option maxRecDepth 100000
set_option maxHeartbeats 6400000
set_option linter.unusedVariables false
set_option linter.unusedSimpArgs false
namespace Go.Proofs.YtnpcfohimlfbdaaGreat
open Go.RowKit

/-- A step as it is handed in: its kind, its lines, its number. -/
structure Rs where
 kind : Int
 i : Int
 j : Int
 z : Int
def Rs.fit (n : Nat) (s : Rs) : Prop := (s.kind = 1 ∧ (0 ≤ s.i ∧ s.i < n) ∧ (0 ≤ s.j ∧ s.j < n)) ∨ (s.kind = 2 ∧ (0 ≤ s.i ∧ s.i < n)) ∨ (s.kind = 3 ∧ (0 ≤ s.i ∧ s.i < n) ∧ (0 ≤ s.j ∧ s.j < n) ∧ s.i ≠ s.j)
instance (n : Nat) (s : Rs) : Decidable (s.fit n) := by unfold Rs.fit; infer_instance
def Rs.st (s : Rs) : St := if s.kind = 1 then .swap s.i.toNat s.j.toNat else if s.kind = 2 then .neg s.i.toNat else .add s.i.toNat s.j.toNat s.z
theorem Rs.st_fit {n : Nat} {s : Rs} (h : s.fit n) : s.st.fit n := by
 unfold Rs.st
 rcases h with ⟨h1, h2, h3⟩ | ⟨h1, h2⟩ | ⟨h1, h2, h3, h4⟩
 ·rw [if_pos h1]; exact ⟨by omega, by omega⟩
 ·rw [if_neg (by omega), if_pos h1]; show s.i.toNat < n; omega
 ·rw [if_neg (by omega), if_neg (by omega)]; exact ⟨by omega, by omega, by omega⟩
/-- The step inside. -/
def Ofd (w : World) (v : Value) (s : Rs) (k : Nat) : Prop :=
 (s.kind = 1 ∧ v = .iface 115 (.agg #[.int .i64 s.i, .int .i64 s.j])) ∨ (s.kind = 2 ∧ v = .iface 117 (.agg #[.int .i64 s.i])) ∨
 (s.kind = 3 ∧ ∃ nv av lv cv, v = .iface 119 (.agg #[.int .i64 s.i, .int .i64 s.j, .bool nv, .slice av lv cv]) ∧ Zm 0 w (.agg #[.bool nv, .slice av lv cv]) s.z k) ∨
 ((s.kind ≠ 1 ∧ s.kind ≠ 2 ∧ s.kind ≠ 3) ∧ v = .nilIface)
def Offed (w : World) (s : Rs) (k : Nat) (e : Ending) (w' : World) : Prop := ∃ v, e = .returned v ∧ Ofd w' v s k ∧ Below w.heap.size w w'
abbrev stO (s : Rs) (nv : Bool) (av : Option Addr) (lv cv : Nat) : Obj := .cells #[.int .i64 s.kind, .int .i64 s.i, .int .i64 s.j, .bool nv, .slice av lv cv] 94
abbrev stV (s : Rs) (nv : Bool) (av : Option Addr) (lv cv : Nat) : Value := .agg #[.int .i64 s.kind, .int .i64 s.i, .int .i64 s.j, .bool nv, .slice av lv cv]
theorem of_any {w : World} {s : Rs} {nv : Bool} {av : Option Addr} {lv cv k : Nat} (hz : Zi w (.agg #[.bool nv, .slice av lv cv]) s.z k) : Calls Tryz.prog 57 #[stV s nv av lv cv] w (Offed w s k) := by
 obtain ⟨W0, hW⟩ : ∃ W0, w.alloc (stO s nv av lv cv) = W0 := ⟨_, rfl⟩
 obtain ⟨b0, sz0⟩ := alo1 w (stO s nv av lv cv)
 rw [hW] at b0 sz0
 have P1 : Hid (Cel W0 w.heap.size 94 [.int .i64 s.kind, .int .i64 s.i, .int .i64 s.j, .bool nv, .slice av lv cv]) := by unfold Hid; rw [← hW]; exact Cel.new w _ _
 have x0 := P1.out.at (i := 0) rfl
 have x1 := P1.out.at (i := 1) rfl
 have x2 := P1.out.at (i := 2) rfl
 have G0 := hid b0
 have ZK := hid (hz.now b0)
 have EW := hid hW
 by_cases h1 : s.kind = 1
 ·have FIN : Hid (Offed w s k (.returned (.iface 115 (.agg #[.int .i64 s.i, .int .i64 s.j]))) W0) := ⟨_, rfl, .inl ⟨h1, rfl⟩, b0⟩
  rw [← hW] at x0 x1 x2
  clear hz b0 sz0 hW P1 ZK G0
  obtain ⟨kd, i, j, z⟩ := s
  dsimp only at h1 x0 x1 x2
  subst h1
  go_enter Tryz.func57, Tryz.ntmps57
  go_wp2
  rw [EW.out]
  go_ret
  exact FIN.out
 ·by_cases h2 : s.kind = 2
  ·have FIN : Hid (Offed w s k (.returned (.iface 117 (.agg #[.int .i64 s.i]))) W0) := ⟨_, rfl, .inr (.inl ⟨h2, rfl⟩), b0⟩
   rw [← hW] at x0 x1 x2
   clear hz b0 sz0 hW P1 ZK G0 h1
   obtain ⟨kd, i, j, z⟩ := s
   dsimp only at h2 x0 x1 x2
   subst h2
   go_enter Tryz.func57, Tryz.ntmps57
   go_wp2
   rw [EW.out]
   go_ret
   exact FIN.out
  ·by_cases h3 : s.kind = 3
   ·have x3 := P1.out.at (i := 3) rfl
    have x4 := P1.out.at (i := 4) rfl
    have y0 := x0
    rw [← hW] at y0
    clear hz b0 sz0 hW P1 h1 h2
    obtain ⟨kd, i, j, z⟩ := s
    dsimp only at h3 x0 x1 x2 y0
    subst h3
    go_enter Tryz.func57, Tryz.ntmps57
    go_wp2_with fail
    rw [EW.out]
    clear EW y0 x0
    have KB : Hid (∀ w', Below W0.heap.size W0 w' → w'.cell? ⟨w.heap.size, 1, none⟩ = some (.int .i64 i) ∧ w'.cell? ⟨w.heap.size, 2, none⟩ = some (.int .i64 j) ∧ w'.cell? ⟨w.heap.size, 3, none⟩ = some (.bool nv) ∧ w'.cell? ⟨w.heap.size, 4, none⟩ = some (.slice av lv cv)) := fun w' h => ⟨cnow h x1, cnow h x2, cnow h x3, cnow h x4⟩
    refine wp_region_tail (fun w' => w'.cell? ⟨w.heap.size, 1, none⟩ = some (.int .i64 i) ∧ w'.cell? ⟨w.heap.size, 2, none⟩ = some (.int .i64 j) ∧ w'.cell? ⟨w.heap.size, 3, none⟩ = some (.bool nv) ∧ w'.cell? ⟨w.heap.size, 4, none⟩ = some (.slice av lv cv)) 9 (by kernel_rfl) ?_
    obtain ⟨D1, hD⟩ : ∃ D1, W0.drew = D1 := ⟨_, rfl⟩
    have GB : Hid (Below W0.heap.size W0 D1) := by unfold Hid; rw [← hD]; exact (Below.refl _ _).drew
    rw [hD]
    clear hD
    refine wpAnyT_take (i := 0) (oi := { dst := some 21, op := Op.fieldAddr 94 (Operand.tmp 1) 1, type := 0, pos := "kinds.go:81", after := #[], guard := none }) (v := (.pointer (some ⟨w.heap.size, 1, none⟩))) rfl (by kernel_rfl) (fun _ _ _ h => h) (Or.inl ⟨by rfl, ?_⟩) (KB.out _ GB.out) ?_
    ·intro w hSw
     (try dsimp only at hSw)
     go_simp
    simp only [Act.put, List.setIfInBounds_toArray, List.set_cons_zero, List.set_cons_succ]
    refine wpAnyT_take (i := 1) (oi := { dst := some 22, op := Op.load 3 (Operand.tmp 21), type := 3, pos := "kinds.go:81", after := #[{ on := 0, ground := Ground.data }], guard := none }) (v := (.int .i64 i)) rfl (by kernel_rfl) (fun _ _ _ h => h) (Or.inl ⟨by rfl, ?_⟩) (KB.out _ GB.out) ?_
    ·intro w hSw
     (try dsimp only at hSw)
     go_simp
    simp only [Act.put, List.setIfInBounds_toArray, List.set_cons_zero, List.set_cons_succ]
    refine wpAnyT_take (i := 2) (oi := { dst := some 23, op := Op.fieldAddr 94 (Operand.tmp 1) 2, type := 0, pos := "kinds.go:81", after := #[], guard := none }) (v := (.pointer (some ⟨w.heap.size, 2, none⟩))) rfl (by kernel_rfl) (fun _ _ _ h => h) (Or.inl ⟨by rfl, ?_⟩) (KB.out _ GB.out) ?_
    ·intro w hSw
     (try dsimp only at hSw)
     go_simp
    simp only [Act.put, List.setIfInBounds_toArray, List.set_cons_zero, List.set_cons_succ]
    refine wpAnyT_take (i := 3) (oi := { dst := some 24, op := Op.load 3 (Operand.tmp 23), type := 3, pos := "kinds.go:81", after := #[{ on := 2, ground := Ground.data }], guard := none }) (v := (.int .i64 j)) rfl (by kernel_rfl) (fun _ _ _ h => h) (Or.inl ⟨by rfl, ?_⟩) (KB.out _ GB.out) ?_
    ·intro w hSw
     (try dsimp only at hSw)
     go_simp
    simp only [Act.put, List.setIfInBounds_toArray, List.set_cons_zero, List.set_cons_succ]
    refine wpAnyT_take (i := 4) (oi := { dst := some 25, op := Op.fieldAddr 94 (Operand.tmp 1) 3, type := 0, pos := "kinds.go:81", after := #[], guard := none }) (v := (.pointer (some ⟨w.heap.size, 3, none⟩))) rfl (by kernel_rfl) (fun _ _ _ h => h) (Or.inl ⟨by rfl, ?_⟩) (KB.out _ GB.out) ?_
    ·intro w hSw
     (try dsimp only at hSw)
     go_simp
    simp only [Act.put, List.setIfInBounds_toArray, List.set_cons_zero, List.set_cons_succ]
    refine wpAnyT_take (i := 5) (oi := { dst := some 26, op := Op.load 29 (Operand.tmp 25), type := 29, pos := "kinds.go:81", after := #[{ on := 4, ground := Ground.data }], guard := none }) (v := (.agg #[.bool nv, .slice av lv cv])) rfl (by kernel_rfl) (fun _ _ _ h => h) (Or.inl ⟨by rfl, ?_⟩) (KB.out _ GB.out) ?_
    ·intro w hSw
     (try dsimp only at hSw)
     go_simp
    simp only [Act.put, List.setIfInBounds_toArray, List.set_cons_zero, List.set_cons_succ]
    refine wpAnyT_one (i := 6) (o := { dst := some 27, op := Op.call { callee := Callee.value (Operand.func 53), args := #[Operand.tmp 26], argTypes := #[29] }, type := 29, pos := "kinds.go:81", after := #[{ on := 5, ground := Ground.data }], guard := none }) (by kernel_rfl) rfl (fun K hK => ?_)
    go_simp
    go_at_call 53
    refine (least_z (ZK.out.now GB.out)).mono ?_
    rintro e w2 ⟨r, rfl, m1, b⟩
    have lz2 := (show Below _ _ _ from b).size
    replace GB := hid (below_step GB.out b)
    have M1 := hid (m1.mono (Nat.zero_le _))
    obtain ⟨nr, xr, ar, cr, rfl⟩ := m1.parts
    clear m1
    clear b
    refine hK.out _ _ (fun _ => KB.out _ GB.out) ?_
    clear hK
    refine wpAnyT_take (i := 7) (oi := { dst := some 28, op := Op.build 119 #[(0, Operand.tmp 22), (1, Operand.tmp 24), (2, Operand.tmp 27)], type := 119, pos := "kinds.go:81", after := #[{ on := 1, ground := Ground.data }, { on := 3, ground := Ground.data }, { on := 6, ground := Ground.data }], guard := none }) (v := (.agg #[.int .i64 i, .int .i64 j, .bool nr, .slice ar xr.length cr])) rfl (by kernel_rfl) (fun _ _ _ h => h) (Or.inl ⟨by rfl, ?_⟩) (KB.out _ GB.out) ?_
    ·intro w hSw
     (try dsimp only at hSw)
     go_simp
    simp only [Act.put, List.setIfInBounds_toArray, List.set_cons_zero, List.set_cons_succ]
    refine wpAnyT_take (i := 8) (oi := { dst := some 29, op := Op.makeInterface 119 (Operand.tmp 28), type := 61, pos := "kinds.go:81", after := #[{ on := 7, ground := Ground.data }], guard := none }) (v := (.iface 119 (.agg #[.int .i64 i, .int .i64 j, .bool nr, .slice ar xr.length cr]))) rfl (by kernel_rfl) (fun _ _ _ h => h) (Or.inl ⟨by rfl, ?_⟩) (KB.out _ GB.out) ?_
    ·intro w hSw
     (try dsimp only at hSw)
     go_simp
    simp only [Act.put, List.setIfInBounds_toArray, List.set_cons_zero, List.set_cons_succ]
    refine wpAnyT_one (i := 9) (o := { dst := some 2, op := Op.assign (Operand.tmp 29), type := 61, pos := "kinds.go:81", after := #[{ on := 8, ground := Ground.data }, { on := 6, ground := Ground.chain }, { on := 0, ground := Ground.phase }, { on := 1, ground := Ground.phase }, { on := 2, ground := Ground.phase }, { on := 3, ground := Ground.phase }, { on := 4, ground := Ground.phase }, { on := 5, ground := Ground.phase }, { on := 6, ground := Ground.phase }, { on := 7, ground := Ground.phase }, { on := 8, ground := Ground.phase }], guard := none }) (by kernel_rfl) rfl (fun K hK => ?_)
    go_simp
    refine hK.out _ _ (fun h => absurd h (by decide)) ?_
    clear hK
    try simp only [Act.put]
    refine wpAnyT_done (by kernel_rfl) ?_ _
    have FIN : Hid (Offed w ⟨3, i, j, z⟩ k (.returned (.iface 119 (.agg #[.int .i64 i, .int .i64 j, .bool nr, .slice ar xr.length cr]))) w2) := ⟨_, rfl, .inr (.inr (.inl ⟨rfl, _, _, _, _, rfl, M1.out⟩)), below_step G0.out GB.out⟩
    clear M1 G0 GB KB ZK x1 x2 x3 x4
    go_wp2
    go_ret
    exact FIN.out
   ·have FIN : Hid (Offed w s k (.returned .nilIface) W0) := ⟨_, rfl, .inr (.inr (.inr ⟨⟨h1, h2, h3⟩, rfl⟩)), b0⟩
    rw [← hW] at x0 x1 x2
    have e1 : (s.kind == 1) = false := by simpa using h1
    have e2 : (s.kind == 2) = false := by simpa using h2
    have e3 : (s.kind == 3) = false := by simpa using h3
    clear hz b0 sz0 hW P1 ZK G0
    go_enter Tryz.func57, Tryz.ntmps57
    go_wp2
    rw [EW.out]
    go_ret
    exact FIN.out

theorem isLine_any {w : World} {i n : Int} : Calls Tryz.prog 141 #[.int .i64 i, .int .i64 n] w fun e w' => e = .returned (.bool (decide (0 ≤ i ∧ i < n))) ∧ w' = w := by
 by_cases h1 : 0 ≤ i
 ·have e : decide (0 ≤ i ∧ i < n) = decide (i < n) := by simp [h1]
  rw [e]
  clear e
  go_enter Tryz.func141, Tryz.ntmps141
  go_wp2
  go_ret
  exact ⟨rfl, rfl⟩
 ·have e : decide (0 ≤ i ∧ i < n) = false := by simp [h1]
  rw [e]
  clear e
  go_enter Tryz.func141, Tryz.ntmps141
  go_wp2
  go_ret
  exact ⟨rfl, rfl⟩
theorem fits_swap {w : World} {i j n : Int} : Calls Tryz.prog 139 #[.agg #[.int .i64 i, .int .i64 j], .int .i64 n] w fun e w' => e = .returned (.bool (decide ((0 ≤ i ∧ i < n) ∧ (0 ≤ j ∧ j < n)))) ∧ Below w.heap.size w w' := by
 obtain ⟨W0, hW⟩ : ∃ W0, w.alloc (.cells #[.int .i64 i, .int .i64 j] 115) = W0 := ⟨_, rfl⟩
 obtain ⟨b0, sz0⟩ := alo1 w (.cells #[.int .i64 i, .int .i64 j] 115)
 rw [hW] at b0 sz0
 have P1 : Hid (Cel W0 w.heap.size 115 [.int .i64 i, .int .i64 j]) := by unfold Hid; rw [← hW]; exact Cel.new w _ _
 have x0 := P1.out.at (i := 0) rfl
 have x1 := P1.out.at (i := 1) rfl
 have G0 := hid b0
 have EW := hid hW
 have y0 := x0
 rw [← hW] at y0
 clear b0 sz0 hW P1
 have H1 := hid (isLine_any (w := W0) (i := i) (n := n))
 have H2 := hid (isLine_any (w := W0) (i := j) (n := n))
 by_cases h1 : 0 ≤ i ∧ i < n
 ·have e : decide ((0 ≤ i ∧ i < n) ∧ (0 ≤ j ∧ j < n)) = decide (0 ≤ j ∧ j < n) := by simp [h1]
  rw [e]
  rw [decide_eq_true h1] at H1
  clear e h1
  generalize decide (0 ≤ j ∧ j < n) = d at *
  go_enter Tryz.func139, Tryz.ntmps139
  go_wp2_with fail
  rw [EW.out]
  refine H1.out.mono ?_
  rintro e w1 ⟨rfl, hw⟩
  have hw' := hw.symm
  subst hw'
  go_wp2_with fail
  refine H2.out.mono ?_
  rintro e w2 ⟨rfl, hw2⟩
  have hw2' := hw2.symm
  subst hw2'
  go_wp2
  go_ret
  exact ⟨rfl, G0.out⟩
 ·have e : decide ((0 ≤ i ∧ i < n) ∧ (0 ≤ j ∧ j < n)) = false := by simp only [decide_eq_false_iff_not]; exact fun h => h1 h.1
  rw [e]
  rw [decide_eq_false h1] at H1
  clear e h1
  go_enter Tryz.func139, Tryz.ntmps139
  go_wp2_with fail
  rw [EW.out]
  refine H1.out.mono ?_
  rintro e w1 ⟨rfl, hw⟩
  have hw' := hw.symm
  subst hw'
  go_wp2
  go_ret
  exact ⟨rfl, G0.out⟩
theorem fits_neg {w : World} {i n : Int} : Calls Tryz.prog 144 #[.agg #[.int .i64 i], .int .i64 n] w fun e w' => e = .returned (.bool (decide (0 ≤ i ∧ i < n))) ∧ Below w.heap.size w w' := by
 obtain ⟨W0, hW⟩ : ∃ W0, w.alloc (.cells #[.int .i64 i] 117) = W0 := ⟨_, rfl⟩
 obtain ⟨b0, sz0⟩ := alo1 w (.cells #[.int .i64 i] 117)
 rw [hW] at b0 sz0
 have P1 : Hid (Cel W0 w.heap.size 117 [.int .i64 i]) := by unfold Hid; rw [← hW]; exact Cel.new w _ _
 have x0 := P1.out.at (i := 0) rfl
 rw [← hW] at x0
 have G0 := hid b0
 have EW := hid hW
 have H1 := hid (isLine_any (w := W0) (i := i) (n := n))
 clear b0 sz0 hW P1
 generalize decide (0 ≤ i ∧ i < n) = d at *
 go_enter Tryz.func144, Tryz.ntmps144
 go_wp2_with fail
 rw [EW.out]
 refine H1.out.mono ?_
 rintro e w1 ⟨rfl, hw⟩
 have hw' := hw.symm
 subst hw'
 go_wp2
 go_ret
 exact ⟨rfl, G0.out⟩
theorem fits_add {w : World} {i j n : Int} {nv : Bool} {av : Option Addr} {lv cv : Nat} : Calls Tryz.prog 148 #[.agg #[.int .i64 i, .int .i64 j, .bool nv, .slice av lv cv], .int .i64 n] w fun e w' => e = .returned (.bool (decide ((0 ≤ i ∧ i < n) ∧ (0 ≤ j ∧ j < n) ∧ i ≠ j))) ∧ Below w.heap.size w w' := by
 obtain ⟨W0, hW⟩ : ∃ W0, w.alloc (.cells #[.int .i64 i, .int .i64 j, .bool nv, .slice av lv cv] 119) = W0 := ⟨_, rfl⟩
 obtain ⟨b0, sz0⟩ := alo1 w (.cells #[.int .i64 i, .int .i64 j, .bool nv, .slice av lv cv] 119)
 rw [hW] at b0 sz0
 have P1 : Hid (Cel W0 w.heap.size 119 [.int .i64 i, .int .i64 j, .bool nv, .slice av lv cv]) := by unfold Hid; rw [← hW]; exact Cel.new w _ _
 have x0 := P1.out.at (i := 0) rfl
 have x1 := P1.out.at (i := 1) rfl
 have G0 := hid b0
 have EW := hid hW
 have y0 := x0
 rw [← hW] at y0
 clear b0 sz0 hW P1
 have H1 := hid (isLine_any (w := W0) (i := i) (n := n))
 have H2 := hid (isLine_any (w := W0) (i := j) (n := n))
 by_cases h1 : 0 ≤ i ∧ i < n
 ·rw [decide_eq_true h1] at H1
  by_cases h2 : 0 ≤ j ∧ j < n
  ·have e : decide ((0 ≤ i ∧ i < n) ∧ (0 ≤ j ∧ j < n) ∧ i ≠ j) = (i != j) := by
    by_cases q : i = j
    ·subst q; simp
    ·simp [h1, h2, q]
   rw [e]
   rw [decide_eq_true h2] at H2
   clear e h1 h2
   go_enter Tryz.func148, Tryz.ntmps148
   go_wp2_with fail
   rw [EW.out]
   refine H1.out.mono ?_
   rintro e w1 ⟨rfl, hw⟩
   have hw' := hw.symm
   subst hw'
   go_wp2_with fail
   refine H2.out.mono ?_
   rintro e w2 ⟨rfl, hw2⟩
   have hw2' := hw2.symm
   subst hw2'
   go_wp2
   go_ret
   exact ⟨rfl, G0.out⟩
  ·have e : decide ((0 ≤ i ∧ i < n) ∧ (0 ≤ j ∧ j < n) ∧ i ≠ j) = false := by simp only [decide_eq_false_iff_not]; exact fun h => h2 h.2.1
   rw [e]
   rw [decide_eq_false h2] at H2
   clear e h1 h2
   go_enter Tryz.func148, Tryz.ntmps148
   go_wp2_with fail
   rw [EW.out]
   refine H1.out.mono ?_
   rintro e w1 ⟨rfl, hw⟩
   have hw' := hw.symm
   subst hw'
   go_wp2_with fail
   refine H2.out.mono ?_
   rintro e w2 ⟨rfl, hw2⟩
   have hw2' := hw2.symm
   subst hw2'
   go_wp2
   go_ret
   exact ⟨rfl, G0.out⟩
 ·have e : decide ((0 ≤ i ∧ i < n) ∧ (0 ≤ j ∧ j < n) ∧ i ≠ j) = false := by simp only [decide_eq_false_iff_not]; exact fun h => h1 h.1
  rw [e]
  rw [decide_eq_false h1] at H1
  clear e h1
  go_enter Tryz.func148, Tryz.ntmps148
  go_wp2_with fail
  rw [EW.out]
  refine H1.out.mono ?_
  rintro e w1 ⟨rfl, hw⟩
  have hw' := hw.symm
  subst hw'
  go_wp2
  go_ret
  exact ⟨rfl, G0.out⟩
theorem isFit_any {w : World} {n : Nat} {s : Rs} {nv : Bool} {av : Option Addr} {lv cv k : Nat} (hz : Zi w (.agg #[.bool nv, .slice av lv cv]) s.z k) :
  Calls Tryz.prog 82 #[.int .i64 (n : Int), stV s nv av lv cv] w fun e w' => e = .returned (.bool (decide (s.fit n))) ∧ Below w.heap.size w w' := by
 obtain ⟨W0, hW⟩ : ∃ W0, w.alloc (stO s nv av lv cv) = W0 := ⟨_, rfl⟩
 obtain ⟨b0, sz0⟩ := alo1 w (stO s nv av lv cv)
 rw [hW] at b0 sz0
 have P1 : Hid (Cel W0 w.heap.size 94 [.int .i64 s.kind, .int .i64 s.i, .int .i64 s.j, .bool nv, .slice av lv cv]) := by unfold Hid; rw [← hW]; exact Cel.new w _ _
 have x0 := P1.out.at (i := 0) rfl
 have x1 := P1.out.at (i := 1) rfl
 have x2 := P1.out.at (i := 2) rfl
 have x3 := P1.out.at (i := 3) rfl
 have x4 := P1.out.at (i := 4) rfl
 rw [← hW] at x0 x1 x2 x3 x4
 have HO := hid (of_any (hz.now b0))
 have G0 := hid b0
 have EW := hid hW
 clear hz b0 sz0 hW P1
 obtain ⟨d, hd⟩ : ∃ d, decide (s.fit n) = d := ⟨_, rfl⟩
 rw [hd]
 have HD := hid hd
 clear hd
 go_enter Tryz.func82, Tryz.ntmps82
 go_wp2_with fail
 rw [EW.out]
 refine HO.out.mono ?_
 rintro e w1 ⟨v, rfl, ho, b⟩
 have G1 := hid (below_step G0.out b)
 clear HO b x0 x1 x2 x3 x4 EW G0
 rcases ho with ⟨h, rfl⟩ | ⟨h, rfl⟩ | ⟨h, nr, ar, lr, cr, rfl, -⟩ | ⟨h, rfl⟩
 ·have e : d = decide ((0 ≤ s.i ∧ s.i < (n : Int)) ∧ (0 ≤ s.j ∧ s.j < (n : Int))) := by
   rw [← HD.out]
   apply decide_eq_decide.2
   unfold Rs.fit
   omega
  have HF := hid (fits_swap (w := w1) (i := s.i) (j := s.j) (n := (n : Int)))
  rw [← e] at HF
  clear e h HD
  go_wp2_with fail
  refine HF.out.mono ?_
  rintro e w2 ⟨rfl, b⟩
  have G2 := hid (below_step G1.out b)
  clear b
  go_wp2
  go_ret
  exact ⟨rfl, G2.out⟩
 ·have e : d = decide (0 ≤ s.i ∧ s.i < (n : Int)) := by
   rw [← HD.out]
   apply decide_eq_decide.2
   unfold Rs.fit
   omega
  have HF := hid (fits_neg (w := w1) (i := s.i) (n := (n : Int)))
  rw [← e] at HF
  clear e h HD
  go_wp2_with fail
  refine HF.out.mono ?_
  rintro e w2 ⟨rfl, b⟩
  have G2 := hid (below_step G1.out b)
  clear b
  go_wp2
  go_ret
  exact ⟨rfl, G2.out⟩
 ·have e : d = decide ((0 ≤ s.i ∧ s.i < (n : Int)) ∧ (0 ≤ s.j ∧ s.j < (n : Int)) ∧ s.i ≠ s.j) := by
   rw [← HD.out]
   apply decide_eq_decide.2
   unfold Rs.fit
   omega
  have HF := hid (fits_add (w := w1) (i := s.i) (j := s.j) (n := (n : Int)) (nv := nr) (av := ar) (lv := lr) (cv := cr))
  rw [← e] at HF
  clear e h HD
  go_wp2_with fail
  refine HF.out.mono ?_
  rintro e w2 ⟨rfl, b⟩
  have G2 := hid (below_step G1.out b)
  clear b
  go_wp2
  go_ret
  exact ⟨rfl, G2.out⟩
 ·have e : d = false := by
   rw [← HD.out]
   apply decide_eq_false
   unfold Rs.fit
   omega
  subst e
  clear h HD
  go_wp2
  go_ret
  exact ⟨rfl, G1.out⟩
end Go.Proofs.YtnpcfohimlfbdaaGreat
