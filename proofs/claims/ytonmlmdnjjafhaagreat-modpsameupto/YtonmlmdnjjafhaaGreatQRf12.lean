/-
  Rf12: what every call refuses; plays and same of such answers.
-/
import Derived.Test.YtonmlmdnjjafhaaGreatQCa12ToWk12
import Derived.Test.YtonmlmdnjjafhaaGreatQLw12
import Derived.Test.YtonmlmdnjjafhaaGreatQRs12ToTailA
namespace Go.Proofs.YtonmlmdnjjafhaaGreat
open Go.RowKit
set_option linter.unusedVariables false

/-- Check, in whatever later world. -/
def ChkAt (w : World) (r c : Int) (a : Option Addr) (l cap : Nat) (s : Bool) : Prop := ∀ w', Below w.heap.size w w' → Calls Tryz.prog 62 #[mrV r c a l cap] w' fun e w'' => e = .returned (.int .i64 (if s = true then 0 else 1)) ∧ Below w'.heap.size w' w''
theorem ChkAt.now {w w' : World} {r c : Int} {a : Option Addr} {l cap : Nat} {s : Bool} (h : ChkAt w r c a l cap s) (hb : Below w.heap.size w w') : ChkAt w' r c a l cap s := fun w'' h2 => h w'' (below_step hb h2)
set_option maxHeartbeats 1600000 in
set_option maxRecDepth 100000 in
theorem refuse_Reduce {w : World} {r c : Int} {a : Option Addr} {l cap p : Nat} {s : Bool} {E : Int} (hc : ChkAt w r c a l cap s) (hE : faultE s true p = E) (hE0 : (E != 0) = true) : Calls Tryz.prog 12 #[mrV r c a l cap, .int .u64 (p : Int)] w fun e w' => e = .returned (.tuple #[mzero, .int .i64 E]) ∧ Below w.heap.size w w' := by
  obtain ⟨W0, hW⟩ : ∃ W0, (w.alloc (mrO r c a l cap)).alloc mbox = W0 := ⟨_, rfl⟩
  have b0 : Below w.heap.size w W0 := by rw [← hW]; exact ((Below.refl _ _).alloc (Nat.le_refl _) _).alloc (by simp) _
  have P1 : Hid (Cel W0 w.heap.size 24 (mrC r c a l cap)) := by unfold Hid; rw [← hW]; exact (Cel.new w _ _).step (alo12 _ _).1
  have PR : Hid (Cel W0 (w.heap.size + 1) 24 [.int .i64 0, .int .i64 0, .slice none 0 0]) := by
    unfold Hid; rw [← hW]
    have := Cel.new (w.alloc (mrO r c a l cap)) 24 [.int .i64 0, .int .i64 0, .slice none 0 0]
    simpa using this
  have x0 := P1.out.at (i := 0) rfl
  have x1 := P1.out.at (i := 1) rfl
  have x2 := P1.out.at (i := 2) rfl
  rw [← hW] at x0 x1 x2
  have HF := hid (fault12 (s := s) (f := true) (p := p) (hc.now b0))
  rw [hE] at HF
  have G0 := hid b0
  have EW := hid hW
  clear b0 hW hc hE
  go_enter Tryz.func12, Tryz.ntmps12
  go_wp2_with fail
  rw [EW.out]
  refine HF.out.mono ?_
  rintro e w1 ⟨rfl, b1⟩
  have G1 := hid (below_step G0.out b1)
  have PR1 := hid (PR.out.step b1)
  have r0 := PR1.out.at (i := 0) rfl
  have r1 := PR1.out.at (i := 1) rfl
  have r2 := PR1.out.at (i := 2) rfl
  have f0 := PR1.out.fz 0
  have f1 := PR1.out.fz 1
  have f2 := PR1.out.fz 2
  have FIN : Hid (GivesME w E (.returned (.tuple #[mzero, .int .i64 E])) (put3 w1 (w.heap.size + 1) (.int .i64 0) (.int .i64 0) (.slice none 0 0))) := ⟨rfl, below_put3 G1.out (by omega) _ _ _⟩
  have PF := hid (PR1.out.put3 (.int .i64 0) (.int .i64 0) (.slice none 0 0))
  clear PR PR1 G1 HF b1 x0 x1 x2 EW G0
  go_wp2
  exact bodyPost_ret (mback1 Tryz.results12 PF.out _ (by rfl) (by rfl)) rfl FIN.out
set_option maxHeartbeats 1600000 in
set_option maxRecDepth 100000 in
theorem refuse_Echelon {w : World} {r c : Int} {a : Option Addr} {l cap p : Nat} {s : Bool} {E : Int} (hc : ChkAt w r c a l cap s) (hE : faultE s true p = E) (hE0 : (E != 0) = true) : Calls Tryz.prog 24 #[mrV r c a l cap, .int .u64 (p : Int)] w fun e w' => e = .returned (.tuple #[mzero, .int .i64 E]) ∧ Below w.heap.size w w' := by
  obtain ⟨W0, hW⟩ : ∃ W0, (w.alloc (mrO r c a l cap)).alloc mbox = W0 := ⟨_, rfl⟩
  have b0 : Below w.heap.size w W0 := by rw [← hW]; exact ((Below.refl _ _).alloc (Nat.le_refl _) _).alloc (by simp) _
  have P1 : Hid (Cel W0 w.heap.size 24 (mrC r c a l cap)) := by unfold Hid; rw [← hW]; exact (Cel.new w _ _).step (alo12 _ _).1
  have PR : Hid (Cel W0 (w.heap.size + 1) 24 [.int .i64 0, .int .i64 0, .slice none 0 0]) := by
    unfold Hid; rw [← hW]
    have := Cel.new (w.alloc (mrO r c a l cap)) 24 [.int .i64 0, .int .i64 0, .slice none 0 0]
    simpa using this
  have x0 := P1.out.at (i := 0) rfl
  have x1 := P1.out.at (i := 1) rfl
  have x2 := P1.out.at (i := 2) rfl
  rw [← hW] at x0 x1 x2
  have HF := hid (fault12 (s := s) (f := true) (p := p) (hc.now b0))
  rw [hE] at HF
  have G0 := hid b0
  have EW := hid hW
  clear b0 hW hc hE
  go_enter Tryz.func24, Tryz.ntmps24
  go_wp2_with fail
  rw [EW.out]
  refine HF.out.mono ?_
  rintro e w1 ⟨rfl, b1⟩
  have G1 := hid (below_step G0.out b1)
  have PR1 := hid (PR.out.step b1)
  have r0 := PR1.out.at (i := 0) rfl
  have r1 := PR1.out.at (i := 1) rfl
  have r2 := PR1.out.at (i := 2) rfl
  have f0 := PR1.out.fz 0
  have f1 := PR1.out.fz 1
  have f2 := PR1.out.fz 2
  have FIN : Hid (GivesME w E (.returned (.tuple #[mzero, .int .i64 E])) (put3 w1 (w.heap.size + 1) (.int .i64 0) (.int .i64 0) (.slice none 0 0))) := ⟨rfl, below_put3 G1.out (by omega) _ _ _⟩
  have PF := hid (PR1.out.put3 (.int .i64 0) (.int .i64 0) (.slice none 0 0))
  clear PR PR1 G1 HF b1 x0 x1 x2 EW G0
  go_wp2
  exact bodyPost_ret (mback1 Tryz.results24 PF.out _ (by rfl) (by rfl)) rfl FIN.out
set_option maxHeartbeats 1600000 in
set_option maxRecDepth 100000 in
theorem refuse_Kernel {w : World} {r c : Int} {a : Option Addr} {l cap p : Nat} {s : Bool} {E : Int} (hc : ChkAt w r c a l cap s) (hE : faultE s true p = E) (hE0 : (E != 0) = true) : Calls Tryz.prog 25 #[mrV r c a l cap, .int .u64 (p : Int)] w fun e w' => e = .returned (.tuple #[mzero, .int .i64 E]) ∧ Below w.heap.size w w' := by
  obtain ⟨W0, hW⟩ : ∃ W0, (w.alloc (mrO r c a l cap)).alloc mbox = W0 := ⟨_, rfl⟩
  have b0 : Below w.heap.size w W0 := by rw [← hW]; exact ((Below.refl _ _).alloc (Nat.le_refl _) _).alloc (by simp) _
  have P1 : Hid (Cel W0 w.heap.size 24 (mrC r c a l cap)) := by unfold Hid; rw [← hW]; exact (Cel.new w _ _).step (alo12 _ _).1
  have PR : Hid (Cel W0 (w.heap.size + 1) 24 [.int .i64 0, .int .i64 0, .slice none 0 0]) := by
    unfold Hid; rw [← hW]
    have := Cel.new (w.alloc (mrO r c a l cap)) 24 [.int .i64 0, .int .i64 0, .slice none 0 0]
    simpa using this
  have x0 := P1.out.at (i := 0) rfl
  have x1 := P1.out.at (i := 1) rfl
  have x2 := P1.out.at (i := 2) rfl
  rw [← hW] at x0 x1 x2
  have HF := hid (fault12 (s := s) (f := true) (p := p) (hc.now b0))
  rw [hE] at HF
  have G0 := hid b0
  have EW := hid hW
  clear b0 hW hc hE
  go_enter Tryz.func25, Tryz.ntmps25
  go_wp2_with fail
  rw [EW.out]
  refine HF.out.mono ?_
  rintro e w1 ⟨rfl, b1⟩
  have G1 := hid (below_step G0.out b1)
  have PR1 := hid (PR.out.step b1)
  have r0 := PR1.out.at (i := 0) rfl
  have r1 := PR1.out.at (i := 1) rfl
  have r2 := PR1.out.at (i := 2) rfl
  have f0 := PR1.out.fz 0
  have f1 := PR1.out.fz 1
  have f2 := PR1.out.fz 2
  have FIN : Hid (GivesME w E (.returned (.tuple #[mzero, .int .i64 E])) (put3 w1 (w.heap.size + 1) (.int .i64 0) (.int .i64 0) (.slice none 0 0))) := ⟨rfl, below_put3 G1.out (by omega) _ _ _⟩
  have PF := hid (PR1.out.put3 (.int .i64 0) (.int .i64 0) (.slice none 0 0))
  clear PR PR1 G1 HF b1 x0 x1 x2 EW G0
  go_wp2
  exact bodyPost_ret (mback1 Tryz.results25 PF.out _ (by rfl) (by rfl)) rfl FIN.out
set_option maxHeartbeats 1600000 in
set_option maxRecDepth 100000 in
theorem refuse_Rank {w : World} {r c : Int} {a : Option Addr} {l cap p : Nat} {s : Bool} {E : Int} (hc : ChkAt w r c a l cap s) (hE : faultE s true p = E) (hE0 : (E != 0) = true) : Calls Tryz.prog 23 #[mrV r c a l cap, .int .u64 (p : Int)] w fun e w' => e = .returned (.tuple #[.int .i64 0, .int .i64 E]) ∧ Below w.heap.size w w' := by
  obtain ⟨W0, hW⟩ : ∃ W0, w.alloc (mrO r c a l cap) = W0 := ⟨_, rfl⟩
  have b0 : Below w.heap.size w W0 := by rw [← hW]; exact (alo12 _ _).1
  have P1 : Hid (Cel W0 w.heap.size 24 (mrC r c a l cap)) := by unfold Hid; rw [← hW]; exact Cel.new w _ _
  have x0 := P1.out.at (i := 0) rfl
  have x1 := P1.out.at (i := 1) rfl
  have x2 := P1.out.at (i := 2) rfl
  rw [← hW] at x0 x1 x2
  have HF := hid (fault12 (s := s) (f := true) (p := p) (hc.now b0))
  rw [hE] at HF
  have G0 := hid b0
  have EW := hid hW
  clear b0 hW hc hE
  go_enter Tryz.func23, Tryz.ntmps23
  go_wp2_with fail
  rw [EW.out]
  refine HF.out.mono ?_
  rintro e w1 ⟨rfl, b1⟩
  have G1 := hid (below_step G0.out b1)
  clear HF b1 x0 x1 x2 EW G0
  go_wp2
  go_ret2
  exact ⟨rfl, G1.out⟩
set_option maxHeartbeats 1600000 in
set_option maxRecDepth 100000 in
theorem refuse_Solve {w : World} {r c : Int} {a : Option Addr} {l cap p : Nat} {s : Bool} {E : Int} (hc : ChkAt w r c a l cap s) (hE : faultE s ((0 : Int) == c) p = E) (hE0 : (E != 0) = true) : Calls Tryz.prog 28 #[mrV r c a l cap, .slice none 0 0, .int .u64 (p : Int)] w fun e w' => e = .returned (.tuple #[.slice none 0 0, .int .i64 E]) ∧ Below w.heap.size w w' := by
  obtain ⟨W0, hW⟩ : ∃ W0, w.alloc (mrO r c a l cap) = W0 := ⟨_, rfl⟩
  have b0 : Below w.heap.size w W0 := by rw [← hW]; exact (alo12 _ _).1
  have P1 : Hid (Cel W0 w.heap.size 24 (mrC r c a l cap)) := by unfold Hid; rw [← hW]; exact Cel.new w _ _
  have x0 := P1.out.at (i := 0) rfl
  have x1 := P1.out.at (i := 1) rfl
  have x2 := P1.out.at (i := 2) rfl
  rw [← hW] at x0 x1 x2
  have HF := hid (fault12 (s := s) (f := ((0 : Int) == c)) (p := p) (hc.now b0))
  rw [hE] at HF
  have G0 := hid b0
  have EW := hid hW
  clear b0 hW hc hE
  go_enter Tryz.func28, Tryz.ntmps28
  go_wp2_with fail
  rw [EW.out]
  refine HF.out.mono ?_
  rintro e w1 ⟨rfl, b1⟩
  have G1 := hid (below_step G0.out b1)
  clear HF b1 x0 x1 x2 EW G0
  go_wp2
  go_ret2
  exact ⟨rfl, G1.out⟩
set_option maxHeartbeats 1600000 in
set_option maxRecDepth 100000 in
theorem refuse_Det {w : World} {r c : Int} {a : Option Addr} {l cap p : Nat} {s : Bool} {E : Int} (hc : ChkAt w r c a l cap s) (hE : faultE s (r == c) p = E) (hE0 : (E != 0) = true) : Calls Tryz.prog 18 #[mrV r c a l cap, .int .u64 (p : Int)] w fun e w' => e = .returned (.tuple #[.int .u64 0, .int .i64 E]) ∧ Below w.heap.size w w' := by
  obtain ⟨W0, hW⟩ : ∃ W0, w.alloc (mrO r c a l cap) = W0 := ⟨_, rfl⟩
  have b0 : Below w.heap.size w W0 := by rw [← hW]; exact (alo12 _ _).1
  have P1 : Hid (Cel W0 w.heap.size 24 (mrC r c a l cap)) := by unfold Hid; rw [← hW]; exact Cel.new w _ _
  have x0 := P1.out.at (i := 0) rfl
  have x1 := P1.out.at (i := 1) rfl
  have x2 := P1.out.at (i := 2) rfl
  have CK := hid (hc.now b0)
  have HE := hid hE
  have G0 := hid b0
  have EW := hid hW
  clear b0 hW hc hE
  go_enter Tryz.func18, Tryz.ntmps18
  go_wp2_with fail
  rw [EW.out]
  clear EW
  have KB : Hid (∀ w', Below W0.heap.size W0 w' → w'.cell? ⟨w.heap.size, 0, none⟩ = some (.int .i64 r) ∧ w'.cell? ⟨w.heap.size, 1, none⟩ = some (.int .i64 c) ∧ w'.cell? ⟨w.heap.size, 2, none⟩ = some (.slice a l cap)) := fun w' h => ⟨cnow h x0, cnow h x1, cnow h x2⟩
  refine wp_region_tail (fun w' => w'.cell? ⟨w.heap.size, 0, none⟩ = some (.int .i64 r) ∧ w'.cell? ⟨w.heap.size, 1, none⟩ = some (.int .i64 c) ∧ w'.cell? ⟨w.heap.size, 2, none⟩ = some (.slice a l cap)) 5 (by kernel_rfl) ?_
  obtain ⟨D1, hD⟩ : ∃ D1, W0.drew = D1 := ⟨_, rfl⟩
  have GB : Hid (Below W0.heap.size W0 D1) := by unfold Hid; rw [← hD]; exact (Below.refl _ _).drew
  rw [hD]
  clear hD
  refine wpAnyT_take (i := 0) (oi := { dst := some 9, op := Op.load 24 (Operand.tmp 2), type := 24, pos := "modp.go:21", after := #[], guard := none }) (v := (.agg #[.int .i64 r, .int .i64 c, .slice a l cap])) rfl (by kernel_rfl) (fun _ _ _ h => h) (Or.inl ⟨by rfl, ?_⟩) (KB.out _ GB.out) ?_
  · intro w hSw
    (try dsimp only at hSw)
    go_simp
  simp only [Act.put, List.setIfInBounds_toArray, List.set_cons_zero, List.set_cons_succ]
  refine wpAnyT_take (i := 1) (oi := { dst := some 10, op := Op.load 24 (Operand.tmp 2), type := 24, pos := "modp.go:21", after := #[], guard := none }) (v := (.agg #[.int .i64 r, .int .i64 c, .slice a l cap])) rfl (by kernel_rfl) (fun _ _ _ h => h) (Or.inl ⟨by rfl, ?_⟩) (KB.out _ GB.out) ?_
  · intro w hSw
    (try dsimp only at hSw)
    go_simp
  simp only [Act.put, List.setIfInBounds_toArray, List.set_cons_zero, List.set_cons_succ]
  refine wpAnyT_take (i := 3) (oi := { dst := some 12, op := Op.move (Operand.tmp 1), type := 25, pos := "modp.go:21", after := #[], guard := none }) (v := (.int .u64 (p : Int))) rfl (by kernel_rfl) (fun _ _ _ h => h) (Or.inl ⟨by rfl, ?_⟩) (KB.out _ GB.out) ?_
  · intro w hSw
    (try dsimp only at hSw)
    go_simp
  simp only [Act.put, List.setIfInBounds_toArray, List.set_cons_zero, List.set_cons_succ]
  refine wpAnyT_one (i := 2) (o := { dst := some 11, op := Op.call { callee := Callee.value (Operand.func 44), args := #[Operand.tmp 10], argTypes := #[24] }, type := 4, pos := "modp.go:21", after := #[{ on := 1, ground := Ground.data }], guard := none }) (by kernel_rfl) rfl (fun K hK => ?_)
  go_simp
  go_at_call 44
  refine (isSquare12).mono ?_
  rintro e w2 ⟨rfl, b⟩
  have lz2 := (show Below _ _ _ from b).size
  replace GB := hid (below_step GB.out b)
  clear b
  refine hK.out _ _ (fun _ => KB.out _ GB.out) ?_
  clear hK
  refine wpAnyT_one (i := 4) (o := { dst := some 13, op := Op.call { callee := Callee.value (Operand.func 34), args := #[Operand.tmp 9, Operand.tmp 11, Operand.tmp 12], argTypes := #[24, 4, 25] }, type := 30, pos := "modp.go:21", after := #[{ on := 0, ground := Ground.data }, { on := 2, ground := Ground.data }, { on := 3, ground := Ground.data }, { on := 2, ground := Ground.chain }], guard := none }) (by kernel_rfl) rfl (fun K hK => ?_)
  go_simp
  go_at_call 34
  refine (fault12 (s := s) (f := (r == c)) (p := p) (CK.out.now GB.out)).mono ?_
  rintro e w3 ⟨rfl, b⟩
  have lz3 := (show Below _ _ _ from b).size
  replace GB := hid (below_step GB.out b)
  rw [HE.out]
  clear b
  refine hK.out _ _ (fun _ => KB.out _ GB.out) ?_
  clear hK
  refine wpAnyT_one (i := 5) (o := { dst := some 6, op := Op.assign (Operand.tmp 13), type := 30, pos := "modp.go:21", after := #[{ on := 4, ground := Ground.data }, { on := 4, ground := Ground.chain }, { on := 0, ground := Ground.phase }, { on := 1, ground := Ground.phase }, { on := 2, ground := Ground.phase }, { on := 3, ground := Ground.phase }, { on := 4, ground := Ground.phase }], guard := none }) (by kernel_rfl) rfl (fun K hK => ?_)
  go_simp
  refine hK.out _ _ (fun h => absurd h (by decide)) ?_
  clear hK
  try simp only [Act.put]
  refine wpAnyT_done (by kernel_rfl) ?_ _
  have G1 := hid (below_step G0.out GB.out)
  clear GB KB x0 x1 x2
  go_wp2
  go_ret2
  exact ⟨rfl, G1.out⟩
set_option maxHeartbeats 1600000 in
set_option maxRecDepth 100000 in
theorem refuse_Inverse {w : World} {r c : Int} {a : Option Addr} {l cap p : Nat} {s : Bool} {E : Int} (hc : ChkAt w r c a l cap s) (hE : faultE s (r == c) p = E) (hE0 : (E != 0) = true) : Calls Tryz.prog 20 #[mrV r c a l cap, .int .u64 (p : Int)] w fun e w' => e = .returned (.tuple #[mzero, .int .i64 E]) ∧ Below w.heap.size w w' := by
  obtain ⟨W0, hW⟩ : ∃ W0, (w.alloc (mrO r c a l cap)).alloc mbox = W0 := ⟨_, rfl⟩
  have b0 : Below w.heap.size w W0 := by rw [← hW]; exact ((Below.refl _ _).alloc (Nat.le_refl _) _).alloc (by simp) _
  have P1 : Hid (Cel W0 w.heap.size 24 (mrC r c a l cap)) := by unfold Hid; rw [← hW]; exact (Cel.new w _ _).step (alo12 _ _).1
  have PR : Hid (Cel W0 (w.heap.size + 1) 24 [.int .i64 0, .int .i64 0, .slice none 0 0]) := by
    unfold Hid; rw [← hW]
    have := Cel.new (w.alloc (mrO r c a l cap)) 24 [.int .i64 0, .int .i64 0, .slice none 0 0]
    simpa using this
  have x0 := P1.out.at (i := 0) rfl
  have x1 := P1.out.at (i := 1) rfl
  have x2 := P1.out.at (i := 2) rfl
  have CK := hid (hc.now b0)
  have HE := hid hE
  have G0 := hid b0
  have EW := hid hW
  clear b0 hW hc hE
  go_enter Tryz.func20, Tryz.ntmps20
  go_wp2_with fail
  rw [EW.out]
  clear EW
  have KB : Hid (∀ w', Below W0.heap.size W0 w' → w'.cell? ⟨w.heap.size, 0, none⟩ = some (.int .i64 r) ∧ w'.cell? ⟨w.heap.size, 1, none⟩ = some (.int .i64 c) ∧ w'.cell? ⟨w.heap.size, 2, none⟩ = some (.slice a l cap)) := fun w' h => ⟨cnow h x0, cnow h x1, cnow h x2⟩
  refine wp_region_tail (fun w' => w'.cell? ⟨w.heap.size, 0, none⟩ = some (.int .i64 r) ∧ w'.cell? ⟨w.heap.size, 1, none⟩ = some (.int .i64 c) ∧ w'.cell? ⟨w.heap.size, 2, none⟩ = some (.slice a l cap)) 5 (by kernel_rfl) ?_
  obtain ⟨D1, hD⟩ : ∃ D1, W0.drew = D1 := ⟨_, rfl⟩
  have GB : Hid (Below W0.heap.size W0 D1) := by unfold Hid; rw [← hD]; exact (Below.refl _ _).drew
  rw [hD]
  clear hD
  refine wpAnyT_take (i := 0) (oi := { dst := some 9, op := Op.load 24 (Operand.tmp 2), type := 24, pos := "modp.go:53", after := #[], guard := none }) (v := (.agg #[.int .i64 r, .int .i64 c, .slice a l cap])) rfl (by kernel_rfl) (fun _ _ _ h => h) (Or.inl ⟨by rfl, ?_⟩) (KB.out _ GB.out) ?_
  · intro w hSw
    (try dsimp only at hSw)
    go_simp
  simp only [Act.put, List.setIfInBounds_toArray, List.set_cons_zero, List.set_cons_succ]
  refine wpAnyT_take (i := 1) (oi := { dst := some 10, op := Op.load 24 (Operand.tmp 2), type := 24, pos := "modp.go:53", after := #[], guard := none }) (v := (.agg #[.int .i64 r, .int .i64 c, .slice a l cap])) rfl (by kernel_rfl) (fun _ _ _ h => h) (Or.inl ⟨by rfl, ?_⟩) (KB.out _ GB.out) ?_
  · intro w hSw
    (try dsimp only at hSw)
    go_simp
  simp only [Act.put, List.setIfInBounds_toArray, List.set_cons_zero, List.set_cons_succ]
  refine wpAnyT_take (i := 3) (oi := { dst := some 12, op := Op.move (Operand.tmp 1), type := 25, pos := "modp.go:53", after := #[], guard := none }) (v := (.int .u64 (p : Int))) rfl (by kernel_rfl) (fun _ _ _ h => h) (Or.inl ⟨by rfl, ?_⟩) (KB.out _ GB.out) ?_
  · intro w hSw
    (try dsimp only at hSw)
    go_simp
  simp only [Act.put, List.setIfInBounds_toArray, List.set_cons_zero, List.set_cons_succ]
  refine wpAnyT_one (i := 2) (o := { dst := some 11, op := Op.call { callee := Callee.value (Operand.func 44), args := #[Operand.tmp 10], argTypes := #[24] }, type := 4, pos := "modp.go:53", after := #[{ on := 1, ground := Ground.data }], guard := none }) (by kernel_rfl) rfl (fun K hK => ?_)
  go_simp
  go_at_call 44
  refine (isSquare12).mono ?_
  rintro e w2 ⟨rfl, b⟩
  have lz2 := (show Below _ _ _ from b).size
  replace GB := hid (below_step GB.out b)
  clear b
  refine hK.out _ _ (fun _ => KB.out _ GB.out) ?_
  clear hK
  refine wpAnyT_one (i := 4) (o := { dst := some 13, op := Op.call { callee := Callee.value (Operand.func 34), args := #[Operand.tmp 9, Operand.tmp 11, Operand.tmp 12], argTypes := #[24, 4, 25] }, type := 30, pos := "modp.go:53", after := #[{ on := 0, ground := Ground.data }, { on := 2, ground := Ground.data }, { on := 3, ground := Ground.data }, { on := 2, ground := Ground.chain }], guard := none }) (by kernel_rfl) rfl (fun K hK => ?_)
  go_simp
  go_at_call 34
  refine (fault12 (s := s) (f := (r == c)) (p := p) (CK.out.now GB.out)).mono ?_
  rintro e w3 ⟨rfl, b⟩
  have lz3 := (show Below _ _ _ from b).size
  replace GB := hid (below_step GB.out b)
  rw [HE.out]
  clear b
  refine hK.out _ _ (fun _ => KB.out _ GB.out) ?_
  clear hK
  refine wpAnyT_one (i := 5) (o := { dst := some 6, op := Op.assign (Operand.tmp 13), type := 30, pos := "modp.go:53", after := #[{ on := 4, ground := Ground.data }, { on := 4, ground := Ground.chain }, { on := 0, ground := Ground.phase }, { on := 1, ground := Ground.phase }, { on := 2, ground := Ground.phase }, { on := 3, ground := Ground.phase }, { on := 4, ground := Ground.phase }], guard := none }) (by kernel_rfl) rfl (fun K hK => ?_)
  go_simp
  refine hK.out _ _ (fun h => absurd h (by decide)) ?_
  clear hK
  try simp only [Act.put]
  refine wpAnyT_done (by kernel_rfl) ?_ _
  have G1 := hid (below_step G0.out GB.out)
  have PR1 := hid (PR.out.step GB.out)
  have r0 := PR1.out.at (i := 0) rfl
  have r1 := PR1.out.at (i := 1) rfl
  have r2 := PR1.out.at (i := 2) rfl
  have f0 := PR1.out.fz 0
  have f1 := PR1.out.fz 1
  have f2 := PR1.out.fz 2
  have FIN : Hid (GivesME w E (.returned (.tuple #[mzero, .int .i64 E])) (put3 w3 (w.heap.size + 1) (.int .i64 0) (.int .i64 0) (.slice none 0 0))) := ⟨rfl, below_put3 G1.out (by omega) _ _ _⟩
  have PF := hid (PR1.out.put3 (.int .i64 0) (.int .i64 0) (.slice none 0 0))
  clear PR PR1 G1 GB KB x0 x1 x2
  go_wp2
  exact bodyPost_ret (mback1 Tryz.results20 PF.out _ (by rfl) (by rfl)) rfl FIN.out
/-- An answer that refuses. -/
abbrev ansC (E : Int) : List Value := [.int .i64 0, .int .i64 0, .slice none 0 0, .slice none 0 0, .int .u64 0, .int .i64 0, .bool false, .int .i64 E]
abbrev ansV (E : Int) : Value := .agg #[.int .i64 0, .int .i64 0, .slice none 0 0, .slice none 0 0, .int .u64 0, .int .i64 0, .bool false, .int .i64 E]
abbrev ansO (E : Int) : Obj := .cells #[.int .i64 0, .int .i64 0, .slice none 0 0, .slice none 0 0, .int .u64 0, .int .i64 0, .bool false, .int .i64 E] 58
abbrev opC (k r c : Int) (a : Option Addr) (l cap p : Nat) : List Value := [.int .i64 k, .int .i64 r, .int .i64 c, .slice a l cap, .slice none 0 0, .int .u64 (p : Int)]
abbrev opV (k r c : Int) (a : Option Addr) (l cap p : Nat) : Value := .agg #[.int .i64 k, .int .i64 r, .int .i64 c, .slice a l cap, .slice none 0 0, .int .u64 (p : Int)]
abbrev opO (k r c : Int) (a : Option Addr) (l cap p : Nat) : Obj := .cells #[.int .i64 k, .int .i64 r, .int .i64 c, .slice a l cap, .slice none 0 0, .int .u64 (p : Int)] 61
theorem ansback {f : Func} {s : Nat} (hr : f.results = #[ResultVar.cell s 58]) {W : World} {b : Nat} {x0 x1 x2 x3 x4 x5 x6 x7 : Value} (h : Cel W b 58 [x0, x1, x2, x3, x4, x5, x6, x7]) (tmps : Array Value) (ht : tmps[s]? = some (.pointer (some ⟨b, 0, none⟩))) :
    (results f tmps).run Tryz.prog W = .ok (.agg #[x0, x1, x2, x3, x4, x5, x6, x7]) W := by
  simp [results, hr, go_sem, ht, h.at (i := 0) rfl, h.at (i := 1) rfl, h.at (i := 2) rfl, h.at (i := 3) rfl, h.at (i := 4) rfl, h.at (i := 5) rfl, h.at (i := 6) rfl, h.at (i := 7) rfl]
def Played (w : World) (E : Int) (e : Ending) (w' : World) : Prop := e = .returned (ansV E) ∧ Below w.heap.size w w'
set_option maxHeartbeats 1600000 in
set_option maxRecDepth 100000 in
theorem plays_Reduce {w : World} {r c : Int} {a : Option Addr} {l cap p : Nat} {s : Bool} {E : Int} (hc : ChkAt w r c a l cap s) (hE : faultE s true p = E) (hE0 : (E != 0) = true) : Calls Tryz.prog 32 #[opV 3 r c a l cap p] w (Played w E) := by
  obtain ⟨W0, hW⟩ : ∃ W0, ((w.alloc (opO 3 r c a l cap p)).alloc (ansO 0)).alloc (ansO 0) = W0 := ⟨_, rfl⟩
  have b0 : Below w.heap.size w W0 := by rw [← hW]; exact (((Below.refl _ _).alloc (Nat.le_refl _) _).alloc (by simp) _).alloc (by simp; omega) _
  have PO : Hid (Cel W0 w.heap.size 61 (opC 3 r c a l cap p)) := by
    unfold Hid; rw [← hW]
    exact ((Cel.new w _ _).step (alo12 _ _).1).step (alo12 _ _).1
  have PR : Hid (Cel W0 (w.heap.size + 1) 58 (ansC 0)) := by
    unfold Hid; rw [← hW]
    have := (Cel.new (w.alloc (opO 3 r c a l cap p)) 58 (ansC 0)).step (alo12 _ (ansO 0)).1
    simpa using this
  have PX : Hid (Cel W0 (w.heap.size + 2) 58 (ansC 0)) := by
    unfold Hid; rw [← hW]
    have := Cel.new ((w.alloc (opO 3 r c a l cap p)).alloc (ansO 0)) 58 (ansC 0)
    simpa using this
  have HR := hid (refuse_Reduce (hc.now b0) hE hE0)
  have x0 := PO.out.at (i := 0) rfl
  have x1 := PO.out.at (i := 1) rfl
  have x2 := PO.out.at (i := 2) rfl
  have x3 := PO.out.at (i := 3) rfl
  have x4 := PO.out.at (i := 4) rfl
  have x5 := PO.out.at (i := 5) rfl
  rw [← hW] at x0 x1 x2 x3 x4 x5
  have G0 := hid b0
  have EW := hid hW
  clear b0 hW hc hE hE0 PO
  go_enter Tryz.func32, Tryz.ntmps32
  go_wp2_with fail
  rw [EW.out]
  refine HR.out.mono ?_
  rintro e w1 ⟨rfl, b1⟩
  have PX1 := hid (PX.out.step b1)
  have PR1 := hid (PR.out.step b1)
  have G1 := hid (below_step G0.out b1)
  obtain ⟨V, hV⟩ : ∃ V, (((w1.setCell ⟨w.heap.size + 2, 0, none⟩ (.int .i64 0)).setCell ⟨w.heap.size + 2, 1, none⟩ (.int .i64 0)).setCell ⟨w.heap.size + 2, 2, none⟩ (.slice none 0 0)).setCell ⟨w.heap.size + 2, 7, none⟩ (.int .i64 E) = V := ⟨_, rfl⟩
  have PX2 : Hid (Cel V (w.heap.size + 2) 58 (ansC E)) := by unfold Hid; rw [← hV]; exact ((((PX1.out.set 0 (.int .i64 0)).set 1 (.int .i64 0)).set 2 (.slice none 0 0)).set 7 (.int .i64 E))
  have PR2 : Hid (Cel V (w.heap.size + 1) 58 (ansC 0)) := by unfold Hid; rw [← hV]; exact ((((PR1.out.ne (by omega)).ne (by omega)).ne (by omega)).ne (by omega))
  have G2 : Hid (Below w.heap.size w V) := by unfold Hid; rw [← hV]; exact (bset (bset (bset (bset G1.out (by omega)) (by omega)) (by omega)) (by omega))
  have y0 := PX1.out.at (i := 0) rfl
  have fy0 := PX1.out.fz 0
  have y1 := PX1.out.at (i := 1) rfl
  have fy1 := PX1.out.fz 1
  have y2 := PX1.out.at (i := 2) rfl
  have fy2 := PX1.out.fz 2
  have y7 := PX1.out.at (i := 7) rfl
  have fy7 := PX1.out.fz 7
  have u0 := PX2.out.at (i := 0) rfl
  have v0 := PR2.out.at (i := 0) rfl
  have g0 := PR2.out.fz 0
  have u1 := PX2.out.at (i := 1) rfl
  have v1 := PR2.out.at (i := 1) rfl
  have g1 := PR2.out.fz 1
  have u2 := PX2.out.at (i := 2) rfl
  have v2 := PR2.out.at (i := 2) rfl
  have g2 := PR2.out.fz 2
  have u3 := PX2.out.at (i := 3) rfl
  have v3 := PR2.out.at (i := 3) rfl
  have g3 := PR2.out.fz 3
  have u4 := PX2.out.at (i := 4) rfl
  have v4 := PR2.out.at (i := 4) rfl
  have g4 := PR2.out.fz 4
  have u5 := PX2.out.at (i := 5) rfl
  have v5 := PR2.out.at (i := 5) rfl
  have g5 := PR2.out.fz 5
  have u6 := PX2.out.at (i := 6) rfl
  have v6 := PR2.out.at (i := 6) rfl
  have g6 := PR2.out.fz 6
  have u7 := PX2.out.at (i := 7) rfl
  have v7 := PR2.out.at (i := 7) rfl
  have g7 := PR2.out.fz 7
  rw [← hV] at u0 v0 g0 u1 v1 g1 u2 v2 g2 u3 v3 g3 u4 v4 g4 u5 v5 g5 u6 v6 g6 u7 v7 g7
  have EV := hid hV
  have PF := hid (PR2.out.put8 (.int .i64 0) (.int .i64 0) (.slice none 0 0) (.slice none 0 0) (.int .u64 0) (.int .i64 0) (.bool false) (.int .i64 E))
  have FIN : Hid (Played w E (.returned (ansV E)) (put8 V (w.heap.size + 1) (.int .i64 0) (.int .i64 0) (.slice none 0 0) (.slice none 0 0) (.int .u64 0) (.int .i64 0) (.bool false) (.int .i64 E))) := ⟨rfl, bset (bset (bset (bset (bset (bset (bset (bset G2.out (by omega)) (by omega)) (by omega)) (by omega)) (by omega)) (by omega)) (by omega)) (by omega)⟩
  clear HR b1 x0 x1 x2 x3 x4 x5 EW G0 PX PR PX1 PR1 G1 PX2 PR2 G2 hV
  go_wp2
  rw [EV.out]
  exact bodyPost_ret (ansback Tryz.results32 PF.out _ (by rfl)) rfl FIN.out
set_option maxHeartbeats 1600000 in
set_option maxRecDepth 100000 in
theorem plays_Det {w : World} {r c : Int} {a : Option Addr} {l cap p : Nat} {s : Bool} {E : Int} (hc : ChkAt w r c a l cap s) (hE : faultE s (r == c) p = E) (hE0 : (E != 0) = true) : Calls Tryz.prog 32 #[opV 4 r c a l cap p] w (Played w E) := by
  obtain ⟨W0, hW⟩ : ∃ W0, ((w.alloc (opO 4 r c a l cap p)).alloc (ansO 0)).alloc (ansO 0) = W0 := ⟨_, rfl⟩
  have b0 : Below w.heap.size w W0 := by rw [← hW]; exact (((Below.refl _ _).alloc (Nat.le_refl _) _).alloc (by simp) _).alloc (by simp; omega) _
  have PO : Hid (Cel W0 w.heap.size 61 (opC 4 r c a l cap p)) := by
    unfold Hid; rw [← hW]
    exact ((Cel.new w _ _).step (alo12 _ _).1).step (alo12 _ _).1
  have PR : Hid (Cel W0 (w.heap.size + 1) 58 (ansC 0)) := by
    unfold Hid; rw [← hW]
    have := (Cel.new (w.alloc (opO 4 r c a l cap p)) 58 (ansC 0)).step (alo12 _ (ansO 0)).1
    simpa using this
  have PX : Hid (Cel W0 (w.heap.size + 2) 58 (ansC 0)) := by
    unfold Hid; rw [← hW]
    have := Cel.new ((w.alloc (opO 4 r c a l cap p)).alloc (ansO 0)) 58 (ansC 0)
    simpa using this
  have HR := hid (refuse_Det (hc.now b0) hE hE0)
  have x0 := PO.out.at (i := 0) rfl
  have x1 := PO.out.at (i := 1) rfl
  have x2 := PO.out.at (i := 2) rfl
  have x3 := PO.out.at (i := 3) rfl
  have x4 := PO.out.at (i := 4) rfl
  have x5 := PO.out.at (i := 5) rfl
  rw [← hW] at x0 x1 x2 x3 x4 x5
  have G0 := hid b0
  have EW := hid hW
  clear b0 hW hc hE hE0 PO
  go_enter Tryz.func32, Tryz.ntmps32
  go_wp2_with fail
  rw [EW.out]
  refine HR.out.mono ?_
  rintro e w1 ⟨rfl, b1⟩
  have PX1 := hid (PX.out.step b1)
  have PR1 := hid (PR.out.step b1)
  have G1 := hid (below_step G0.out b1)
  obtain ⟨V, hV⟩ : ∃ V, (w1.setCell ⟨w.heap.size + 2, 4, none⟩ (.int .u64 0)).setCell ⟨w.heap.size + 2, 7, none⟩ (.int .i64 E) = V := ⟨_, rfl⟩
  have PX2 : Hid (Cel V (w.heap.size + 2) 58 (ansC E)) := by unfold Hid; rw [← hV]; exact ((PX1.out.set 4 (.int .u64 0)).set 7 (.int .i64 E))
  have PR2 : Hid (Cel V (w.heap.size + 1) 58 (ansC 0)) := by unfold Hid; rw [← hV]; exact ((PR1.out.ne (by omega)).ne (by omega))
  have G2 : Hid (Below w.heap.size w V) := by unfold Hid; rw [← hV]; exact (bset (bset G1.out (by omega)) (by omega))
  have y4 := PX1.out.at (i := 4) rfl
  have fy4 := PX1.out.fz 4
  have y7 := PX1.out.at (i := 7) rfl
  have fy7 := PX1.out.fz 7
  have u0 := PX2.out.at (i := 0) rfl
  have v0 := PR2.out.at (i := 0) rfl
  have g0 := PR2.out.fz 0
  have u1 := PX2.out.at (i := 1) rfl
  have v1 := PR2.out.at (i := 1) rfl
  have g1 := PR2.out.fz 1
  have u2 := PX2.out.at (i := 2) rfl
  have v2 := PR2.out.at (i := 2) rfl
  have g2 := PR2.out.fz 2
  have u3 := PX2.out.at (i := 3) rfl
  have v3 := PR2.out.at (i := 3) rfl
  have g3 := PR2.out.fz 3
  have u4 := PX2.out.at (i := 4) rfl
  have v4 := PR2.out.at (i := 4) rfl
  have g4 := PR2.out.fz 4
  have u5 := PX2.out.at (i := 5) rfl
  have v5 := PR2.out.at (i := 5) rfl
  have g5 := PR2.out.fz 5
  have u6 := PX2.out.at (i := 6) rfl
  have v6 := PR2.out.at (i := 6) rfl
  have g6 := PR2.out.fz 6
  have u7 := PX2.out.at (i := 7) rfl
  have v7 := PR2.out.at (i := 7) rfl
  have g7 := PR2.out.fz 7
  rw [← hV] at u0 v0 g0 u1 v1 g1 u2 v2 g2 u3 v3 g3 u4 v4 g4 u5 v5 g5 u6 v6 g6 u7 v7 g7
  have EV := hid hV
  have PF := hid (PR2.out.put8 (.int .i64 0) (.int .i64 0) (.slice none 0 0) (.slice none 0 0) (.int .u64 0) (.int .i64 0) (.bool false) (.int .i64 E))
  have FIN : Hid (Played w E (.returned (ansV E)) (put8 V (w.heap.size + 1) (.int .i64 0) (.int .i64 0) (.slice none 0 0) (.slice none 0 0) (.int .u64 0) (.int .i64 0) (.bool false) (.int .i64 E))) := ⟨rfl, bset (bset (bset (bset (bset (bset (bset (bset G2.out (by omega)) (by omega)) (by omega)) (by omega)) (by omega)) (by omega)) (by omega)) (by omega)⟩
  clear HR b1 x0 x1 x2 x3 x4 x5 EW G0 PX PR PX1 PR1 G1 PX2 PR2 G2 hV
  go_wp2
  rw [EV.out]
  exact bodyPost_ret (ansback Tryz.results32 PF.out _ (by rfl)) rfl FIN.out
set_option maxHeartbeats 1600000 in
set_option maxRecDepth 100000 in
theorem plays_Rank {w : World} {r c : Int} {a : Option Addr} {l cap p : Nat} {s : Bool} {E : Int} (hc : ChkAt w r c a l cap s) (hE : faultE s true p = E) (hE0 : (E != 0) = true) : Calls Tryz.prog 32 #[opV 5 r c a l cap p] w (Played w E) := by
  obtain ⟨W0, hW⟩ : ∃ W0, ((w.alloc (opO 5 r c a l cap p)).alloc (ansO 0)).alloc (ansO 0) = W0 := ⟨_, rfl⟩
  have b0 : Below w.heap.size w W0 := by rw [← hW]; exact (((Below.refl _ _).alloc (Nat.le_refl _) _).alloc (by simp) _).alloc (by simp; omega) _
  have PO : Hid (Cel W0 w.heap.size 61 (opC 5 r c a l cap p)) := by
    unfold Hid; rw [← hW]
    exact ((Cel.new w _ _).step (alo12 _ _).1).step (alo12 _ _).1
  have PR : Hid (Cel W0 (w.heap.size + 1) 58 (ansC 0)) := by
    unfold Hid; rw [← hW]
    have := (Cel.new (w.alloc (opO 5 r c a l cap p)) 58 (ansC 0)).step (alo12 _ (ansO 0)).1
    simpa using this
  have PX : Hid (Cel W0 (w.heap.size + 2) 58 (ansC 0)) := by
    unfold Hid; rw [← hW]
    have := Cel.new ((w.alloc (opO 5 r c a l cap p)).alloc (ansO 0)) 58 (ansC 0)
    simpa using this
  have HR := hid (refuse_Rank (hc.now b0) hE hE0)
  have x0 := PO.out.at (i := 0) rfl
  have x1 := PO.out.at (i := 1) rfl
  have x2 := PO.out.at (i := 2) rfl
  have x3 := PO.out.at (i := 3) rfl
  have x4 := PO.out.at (i := 4) rfl
  have x5 := PO.out.at (i := 5) rfl
  rw [← hW] at x0 x1 x2 x3 x4 x5
  have G0 := hid b0
  have EW := hid hW
  clear b0 hW hc hE hE0 PO
  go_enter Tryz.func32, Tryz.ntmps32
  go_wp2_with fail
  rw [EW.out]
  refine HR.out.mono ?_
  rintro e w1 ⟨rfl, b1⟩
  have PX1 := hid (PX.out.step b1)
  have PR1 := hid (PR.out.step b1)
  have G1 := hid (below_step G0.out b1)
  obtain ⟨V, hV⟩ : ∃ V, (w1.setCell ⟨w.heap.size + 2, 5, none⟩ (.int .i64 0)).setCell ⟨w.heap.size + 2, 7, none⟩ (.int .i64 E) = V := ⟨_, rfl⟩
  have PX2 : Hid (Cel V (w.heap.size + 2) 58 (ansC E)) := by unfold Hid; rw [← hV]; exact ((PX1.out.set 5 (.int .i64 0)).set 7 (.int .i64 E))
  have PR2 : Hid (Cel V (w.heap.size + 1) 58 (ansC 0)) := by unfold Hid; rw [← hV]; exact ((PR1.out.ne (by omega)).ne (by omega))
  have G2 : Hid (Below w.heap.size w V) := by unfold Hid; rw [← hV]; exact (bset (bset G1.out (by omega)) (by omega))
  have y5 := PX1.out.at (i := 5) rfl
  have fy5 := PX1.out.fz 5
  have y7 := PX1.out.at (i := 7) rfl
  have fy7 := PX1.out.fz 7
  have u0 := PX2.out.at (i := 0) rfl
  have v0 := PR2.out.at (i := 0) rfl
  have g0 := PR2.out.fz 0
  have u1 := PX2.out.at (i := 1) rfl
  have v1 := PR2.out.at (i := 1) rfl
  have g1 := PR2.out.fz 1
  have u2 := PX2.out.at (i := 2) rfl
  have v2 := PR2.out.at (i := 2) rfl
  have g2 := PR2.out.fz 2
  have u3 := PX2.out.at (i := 3) rfl
  have v3 := PR2.out.at (i := 3) rfl
  have g3 := PR2.out.fz 3
  have u4 := PX2.out.at (i := 4) rfl
  have v4 := PR2.out.at (i := 4) rfl
  have g4 := PR2.out.fz 4
  have u5 := PX2.out.at (i := 5) rfl
  have v5 := PR2.out.at (i := 5) rfl
  have g5 := PR2.out.fz 5
  have u6 := PX2.out.at (i := 6) rfl
  have v6 := PR2.out.at (i := 6) rfl
  have g6 := PR2.out.fz 6
  have u7 := PX2.out.at (i := 7) rfl
  have v7 := PR2.out.at (i := 7) rfl
  have g7 := PR2.out.fz 7
  rw [← hV] at u0 v0 g0 u1 v1 g1 u2 v2 g2 u3 v3 g3 u4 v4 g4 u5 v5 g5 u6 v6 g6 u7 v7 g7
  have EV := hid hV
  have PF := hid (PR2.out.put8 (.int .i64 0) (.int .i64 0) (.slice none 0 0) (.slice none 0 0) (.int .u64 0) (.int .i64 0) (.bool false) (.int .i64 E))
  have FIN : Hid (Played w E (.returned (ansV E)) (put8 V (w.heap.size + 1) (.int .i64 0) (.int .i64 0) (.slice none 0 0) (.slice none 0 0) (.int .u64 0) (.int .i64 0) (.bool false) (.int .i64 E))) := ⟨rfl, bset (bset (bset (bset (bset (bset (bset (bset G2.out (by omega)) (by omega)) (by omega)) (by omega)) (by omega)) (by omega)) (by omega)) (by omega)⟩
  clear HR b1 x0 x1 x2 x3 x4 x5 EW G0 PX PR PX1 PR1 G1 PX2 PR2 G2 hV
  go_wp2
  rw [EV.out]
  exact bodyPost_ret (ansback Tryz.results32 PF.out _ (by rfl)) rfl FIN.out
set_option maxHeartbeats 1600000 in
set_option maxRecDepth 100000 in
theorem plays_Echelon {w : World} {r c : Int} {a : Option Addr} {l cap p : Nat} {s : Bool} {E : Int} (hc : ChkAt w r c a l cap s) (hE : faultE s true p = E) (hE0 : (E != 0) = true) : Calls Tryz.prog 32 #[opV 6 r c a l cap p] w (Played w E) := by
  obtain ⟨W0, hW⟩ : ∃ W0, ((w.alloc (opO 6 r c a l cap p)).alloc (ansO 0)).alloc (ansO 0) = W0 := ⟨_, rfl⟩
  have b0 : Below w.heap.size w W0 := by rw [← hW]; exact (((Below.refl _ _).alloc (Nat.le_refl _) _).alloc (by simp) _).alloc (by simp; omega) _
  have PO : Hid (Cel W0 w.heap.size 61 (opC 6 r c a l cap p)) := by
    unfold Hid; rw [← hW]
    exact ((Cel.new w _ _).step (alo12 _ _).1).step (alo12 _ _).1
  have PR : Hid (Cel W0 (w.heap.size + 1) 58 (ansC 0)) := by
    unfold Hid; rw [← hW]
    have := (Cel.new (w.alloc (opO 6 r c a l cap p)) 58 (ansC 0)).step (alo12 _ (ansO 0)).1
    simpa using this
  have PX : Hid (Cel W0 (w.heap.size + 2) 58 (ansC 0)) := by
    unfold Hid; rw [← hW]
    have := Cel.new ((w.alloc (opO 6 r c a l cap p)).alloc (ansO 0)) 58 (ansC 0)
    simpa using this
  have HR := hid (refuse_Echelon (hc.now b0) hE hE0)
  have x0 := PO.out.at (i := 0) rfl
  have x1 := PO.out.at (i := 1) rfl
  have x2 := PO.out.at (i := 2) rfl
  have x3 := PO.out.at (i := 3) rfl
  have x4 := PO.out.at (i := 4) rfl
  have x5 := PO.out.at (i := 5) rfl
  rw [← hW] at x0 x1 x2 x3 x4 x5
  have G0 := hid b0
  have EW := hid hW
  clear b0 hW hc hE hE0 PO
  go_enter Tryz.func32, Tryz.ntmps32
  go_wp2_with fail
  rw [EW.out]
  refine HR.out.mono ?_
  rintro e w1 ⟨rfl, b1⟩
  have PX1 := hid (PX.out.step b1)
  have PR1 := hid (PR.out.step b1)
  have G1 := hid (below_step G0.out b1)
  obtain ⟨V, hV⟩ : ∃ V, (((w1.setCell ⟨w.heap.size + 2, 0, none⟩ (.int .i64 0)).setCell ⟨w.heap.size + 2, 1, none⟩ (.int .i64 0)).setCell ⟨w.heap.size + 2, 2, none⟩ (.slice none 0 0)).setCell ⟨w.heap.size + 2, 7, none⟩ (.int .i64 E) = V := ⟨_, rfl⟩
  have PX2 : Hid (Cel V (w.heap.size + 2) 58 (ansC E)) := by unfold Hid; rw [← hV]; exact ((((PX1.out.set 0 (.int .i64 0)).set 1 (.int .i64 0)).set 2 (.slice none 0 0)).set 7 (.int .i64 E))
  have PR2 : Hid (Cel V (w.heap.size + 1) 58 (ansC 0)) := by unfold Hid; rw [← hV]; exact ((((PR1.out.ne (by omega)).ne (by omega)).ne (by omega)).ne (by omega))
  have G2 : Hid (Below w.heap.size w V) := by unfold Hid; rw [← hV]; exact (bset (bset (bset (bset G1.out (by omega)) (by omega)) (by omega)) (by omega))
  have y0 := PX1.out.at (i := 0) rfl
  have fy0 := PX1.out.fz 0
  have y1 := PX1.out.at (i := 1) rfl
  have fy1 := PX1.out.fz 1
  have y2 := PX1.out.at (i := 2) rfl
  have fy2 := PX1.out.fz 2
  have y7 := PX1.out.at (i := 7) rfl
  have fy7 := PX1.out.fz 7
  have u0 := PX2.out.at (i := 0) rfl
  have v0 := PR2.out.at (i := 0) rfl
  have g0 := PR2.out.fz 0
  have u1 := PX2.out.at (i := 1) rfl
  have v1 := PR2.out.at (i := 1) rfl
  have g1 := PR2.out.fz 1
  have u2 := PX2.out.at (i := 2) rfl
  have v2 := PR2.out.at (i := 2) rfl
  have g2 := PR2.out.fz 2
  have u3 := PX2.out.at (i := 3) rfl
  have v3 := PR2.out.at (i := 3) rfl
  have g3 := PR2.out.fz 3
  have u4 := PX2.out.at (i := 4) rfl
  have v4 := PR2.out.at (i := 4) rfl
  have g4 := PR2.out.fz 4
  have u5 := PX2.out.at (i := 5) rfl
  have v5 := PR2.out.at (i := 5) rfl
  have g5 := PR2.out.fz 5
  have u6 := PX2.out.at (i := 6) rfl
  have v6 := PR2.out.at (i := 6) rfl
  have g6 := PR2.out.fz 6
  have u7 := PX2.out.at (i := 7) rfl
  have v7 := PR2.out.at (i := 7) rfl
  have g7 := PR2.out.fz 7
  rw [← hV] at u0 v0 g0 u1 v1 g1 u2 v2 g2 u3 v3 g3 u4 v4 g4 u5 v5 g5 u6 v6 g6 u7 v7 g7
  have EV := hid hV
  have PF := hid (PR2.out.put8 (.int .i64 0) (.int .i64 0) (.slice none 0 0) (.slice none 0 0) (.int .u64 0) (.int .i64 0) (.bool false) (.int .i64 E))
  have FIN : Hid (Played w E (.returned (ansV E)) (put8 V (w.heap.size + 1) (.int .i64 0) (.int .i64 0) (.slice none 0 0) (.slice none 0 0) (.int .u64 0) (.int .i64 0) (.bool false) (.int .i64 E))) := ⟨rfl, bset (bset (bset (bset (bset (bset (bset (bset G2.out (by omega)) (by omega)) (by omega)) (by omega)) (by omega)) (by omega)) (by omega)) (by omega)⟩
  clear HR b1 x0 x1 x2 x3 x4 x5 EW G0 PX PR PX1 PR1 G1 PX2 PR2 G2 hV
  go_wp2
  rw [EV.out]
  exact bodyPost_ret (ansback Tryz.results32 PF.out _ (by rfl)) rfl FIN.out
set_option maxHeartbeats 1600000 in
set_option maxRecDepth 100000 in
theorem plays_Inverse {w : World} {r c : Int} {a : Option Addr} {l cap p : Nat} {s : Bool} {E : Int} (hc : ChkAt w r c a l cap s) (hE : faultE s (r == c) p = E) (hE0 : (E != 0) = true) : Calls Tryz.prog 32 #[opV 7 r c a l cap p] w (Played w E) := by
  obtain ⟨W0, hW⟩ : ∃ W0, ((w.alloc (opO 7 r c a l cap p)).alloc (ansO 0)).alloc (ansO 0) = W0 := ⟨_, rfl⟩
  have b0 : Below w.heap.size w W0 := by rw [← hW]; exact (((Below.refl _ _).alloc (Nat.le_refl _) _).alloc (by simp) _).alloc (by simp; omega) _
  have PO : Hid (Cel W0 w.heap.size 61 (opC 7 r c a l cap p)) := by
    unfold Hid; rw [← hW]
    exact ((Cel.new w _ _).step (alo12 _ _).1).step (alo12 _ _).1
  have PR : Hid (Cel W0 (w.heap.size + 1) 58 (ansC 0)) := by
    unfold Hid; rw [← hW]
    have := (Cel.new (w.alloc (opO 7 r c a l cap p)) 58 (ansC 0)).step (alo12 _ (ansO 0)).1
    simpa using this
  have PX : Hid (Cel W0 (w.heap.size + 2) 58 (ansC 0)) := by
    unfold Hid; rw [← hW]
    have := Cel.new ((w.alloc (opO 7 r c a l cap p)).alloc (ansO 0)) 58 (ansC 0)
    simpa using this
  have HR := hid (refuse_Inverse (hc.now b0) hE hE0)
  have x0 := PO.out.at (i := 0) rfl
  have x1 := PO.out.at (i := 1) rfl
  have x2 := PO.out.at (i := 2) rfl
  have x3 := PO.out.at (i := 3) rfl
  have x4 := PO.out.at (i := 4) rfl
  have x5 := PO.out.at (i := 5) rfl
  rw [← hW] at x0 x1 x2 x3 x4 x5
  have G0 := hid b0
  have EW := hid hW
  clear b0 hW hc hE hE0 PO
  go_enter Tryz.func32, Tryz.ntmps32
  go_wp2_with fail
  rw [EW.out]
  refine HR.out.mono ?_
  rintro e w1 ⟨rfl, b1⟩
  have PX1 := hid (PX.out.step b1)
  have PR1 := hid (PR.out.step b1)
  have G1 := hid (below_step G0.out b1)
  obtain ⟨V, hV⟩ : ∃ V, (((w1.setCell ⟨w.heap.size + 2, 0, none⟩ (.int .i64 0)).setCell ⟨w.heap.size + 2, 1, none⟩ (.int .i64 0)).setCell ⟨w.heap.size + 2, 2, none⟩ (.slice none 0 0)).setCell ⟨w.heap.size + 2, 7, none⟩ (.int .i64 E) = V := ⟨_, rfl⟩
  have PX2 : Hid (Cel V (w.heap.size + 2) 58 (ansC E)) := by unfold Hid; rw [← hV]; exact ((((PX1.out.set 0 (.int .i64 0)).set 1 (.int .i64 0)).set 2 (.slice none 0 0)).set 7 (.int .i64 E))
  have PR2 : Hid (Cel V (w.heap.size + 1) 58 (ansC 0)) := by unfold Hid; rw [← hV]; exact ((((PR1.out.ne (by omega)).ne (by omega)).ne (by omega)).ne (by omega))
  have G2 : Hid (Below w.heap.size w V) := by unfold Hid; rw [← hV]; exact (bset (bset (bset (bset G1.out (by omega)) (by omega)) (by omega)) (by omega))
  have y0 := PX1.out.at (i := 0) rfl
  have fy0 := PX1.out.fz 0
  have y1 := PX1.out.at (i := 1) rfl
  have fy1 := PX1.out.fz 1
  have y2 := PX1.out.at (i := 2) rfl
  have fy2 := PX1.out.fz 2
  have y7 := PX1.out.at (i := 7) rfl
  have fy7 := PX1.out.fz 7
  have u0 := PX2.out.at (i := 0) rfl
  have v0 := PR2.out.at (i := 0) rfl
  have g0 := PR2.out.fz 0
  have u1 := PX2.out.at (i := 1) rfl
  have v1 := PR2.out.at (i := 1) rfl
  have g1 := PR2.out.fz 1
  have u2 := PX2.out.at (i := 2) rfl
  have v2 := PR2.out.at (i := 2) rfl
  have g2 := PR2.out.fz 2
  have u3 := PX2.out.at (i := 3) rfl
  have v3 := PR2.out.at (i := 3) rfl
  have g3 := PR2.out.fz 3
  have u4 := PX2.out.at (i := 4) rfl
  have v4 := PR2.out.at (i := 4) rfl
  have g4 := PR2.out.fz 4
  have u5 := PX2.out.at (i := 5) rfl
  have v5 := PR2.out.at (i := 5) rfl
  have g5 := PR2.out.fz 5
  have u6 := PX2.out.at (i := 6) rfl
  have v6 := PR2.out.at (i := 6) rfl
  have g6 := PR2.out.fz 6
  have u7 := PX2.out.at (i := 7) rfl
  have v7 := PR2.out.at (i := 7) rfl
  have g7 := PR2.out.fz 7
  rw [← hV] at u0 v0 g0 u1 v1 g1 u2 v2 g2 u3 v3 g3 u4 v4 g4 u5 v5 g5 u6 v6 g6 u7 v7 g7
  have EV := hid hV
  have PF := hid (PR2.out.put8 (.int .i64 0) (.int .i64 0) (.slice none 0 0) (.slice none 0 0) (.int .u64 0) (.int .i64 0) (.bool false) (.int .i64 E))
  have FIN : Hid (Played w E (.returned (ansV E)) (put8 V (w.heap.size + 1) (.int .i64 0) (.int .i64 0) (.slice none 0 0) (.slice none 0 0) (.int .u64 0) (.int .i64 0) (.bool false) (.int .i64 E))) := ⟨rfl, bset (bset (bset (bset (bset (bset (bset (bset G2.out (by omega)) (by omega)) (by omega)) (by omega)) (by omega)) (by omega)) (by omega)) (by omega)⟩
  clear HR b1 x0 x1 x2 x3 x4 x5 EW G0 PX PR PX1 PR1 G1 PX2 PR2 G2 hV
  go_wp2
  rw [EV.out]
  exact bodyPost_ret (ansback Tryz.results32 PF.out _ (by rfl)) rfl FIN.out
set_option maxHeartbeats 1600000 in
set_option maxRecDepth 100000 in
theorem plays_Kernel {w : World} {r c : Int} {a : Option Addr} {l cap p : Nat} {s : Bool} {E : Int} (hc : ChkAt w r c a l cap s) (hE : faultE s true p = E) (hE0 : (E != 0) = true) : Calls Tryz.prog 32 #[opV 8 r c a l cap p] w (Played w E) := by
  obtain ⟨W0, hW⟩ : ∃ W0, ((w.alloc (opO 8 r c a l cap p)).alloc (ansO 0)).alloc (ansO 0) = W0 := ⟨_, rfl⟩
  have b0 : Below w.heap.size w W0 := by rw [← hW]; exact (((Below.refl _ _).alloc (Nat.le_refl _) _).alloc (by simp) _).alloc (by simp; omega) _
  have PO : Hid (Cel W0 w.heap.size 61 (opC 8 r c a l cap p)) := by
    unfold Hid; rw [← hW]
    exact ((Cel.new w _ _).step (alo12 _ _).1).step (alo12 _ _).1
  have PR : Hid (Cel W0 (w.heap.size + 1) 58 (ansC 0)) := by
    unfold Hid; rw [← hW]
    have := (Cel.new (w.alloc (opO 8 r c a l cap p)) 58 (ansC 0)).step (alo12 _ (ansO 0)).1
    simpa using this
  have PX : Hid (Cel W0 (w.heap.size + 2) 58 (ansC 0)) := by
    unfold Hid; rw [← hW]
    have := Cel.new ((w.alloc (opO 8 r c a l cap p)).alloc (ansO 0)) 58 (ansC 0)
    simpa using this
  have HR := hid (refuse_Kernel (hc.now b0) hE hE0)
  have x0 := PO.out.at (i := 0) rfl
  have x1 := PO.out.at (i := 1) rfl
  have x2 := PO.out.at (i := 2) rfl
  have x3 := PO.out.at (i := 3) rfl
  have x4 := PO.out.at (i := 4) rfl
  have x5 := PO.out.at (i := 5) rfl
  rw [← hW] at x0 x1 x2 x3 x4 x5
  have G0 := hid b0
  have EW := hid hW
  clear b0 hW hc hE hE0 PO
  go_enter Tryz.func32, Tryz.ntmps32
  go_wp2_with fail
  rw [EW.out]
  refine HR.out.mono ?_
  rintro e w1 ⟨rfl, b1⟩
  have PX1 := hid (PX.out.step b1)
  have PR1 := hid (PR.out.step b1)
  have G1 := hid (below_step G0.out b1)
  obtain ⟨V, hV⟩ : ∃ V, (((w1.setCell ⟨w.heap.size + 2, 0, none⟩ (.int .i64 0)).setCell ⟨w.heap.size + 2, 1, none⟩ (.int .i64 0)).setCell ⟨w.heap.size + 2, 2, none⟩ (.slice none 0 0)).setCell ⟨w.heap.size + 2, 7, none⟩ (.int .i64 E) = V := ⟨_, rfl⟩
  have PX2 : Hid (Cel V (w.heap.size + 2) 58 (ansC E)) := by unfold Hid; rw [← hV]; exact ((((PX1.out.set 0 (.int .i64 0)).set 1 (.int .i64 0)).set 2 (.slice none 0 0)).set 7 (.int .i64 E))
  have PR2 : Hid (Cel V (w.heap.size + 1) 58 (ansC 0)) := by unfold Hid; rw [← hV]; exact ((((PR1.out.ne (by omega)).ne (by omega)).ne (by omega)).ne (by omega))
  have G2 : Hid (Below w.heap.size w V) := by unfold Hid; rw [← hV]; exact (bset (bset (bset (bset G1.out (by omega)) (by omega)) (by omega)) (by omega))
  have y0 := PX1.out.at (i := 0) rfl
  have fy0 := PX1.out.fz 0
  have y1 := PX1.out.at (i := 1) rfl
  have fy1 := PX1.out.fz 1
  have y2 := PX1.out.at (i := 2) rfl
  have fy2 := PX1.out.fz 2
  have y7 := PX1.out.at (i := 7) rfl
  have fy7 := PX1.out.fz 7
  have u0 := PX2.out.at (i := 0) rfl
  have v0 := PR2.out.at (i := 0) rfl
  have g0 := PR2.out.fz 0
  have u1 := PX2.out.at (i := 1) rfl
  have v1 := PR2.out.at (i := 1) rfl
  have g1 := PR2.out.fz 1
  have u2 := PX2.out.at (i := 2) rfl
  have v2 := PR2.out.at (i := 2) rfl
  have g2 := PR2.out.fz 2
  have u3 := PX2.out.at (i := 3) rfl
  have v3 := PR2.out.at (i := 3) rfl
  have g3 := PR2.out.fz 3
  have u4 := PX2.out.at (i := 4) rfl
  have v4 := PR2.out.at (i := 4) rfl
  have g4 := PR2.out.fz 4
  have u5 := PX2.out.at (i := 5) rfl
  have v5 := PR2.out.at (i := 5) rfl
  have g5 := PR2.out.fz 5
  have u6 := PX2.out.at (i := 6) rfl
  have v6 := PR2.out.at (i := 6) rfl
  have g6 := PR2.out.fz 6
  have u7 := PX2.out.at (i := 7) rfl
  have v7 := PR2.out.at (i := 7) rfl
  have g7 := PR2.out.fz 7
  rw [← hV] at u0 v0 g0 u1 v1 g1 u2 v2 g2 u3 v3 g3 u4 v4 g4 u5 v5 g5 u6 v6 g6 u7 v7 g7
  have EV := hid hV
  have PF := hid (PR2.out.put8 (.int .i64 0) (.int .i64 0) (.slice none 0 0) (.slice none 0 0) (.int .u64 0) (.int .i64 0) (.bool false) (.int .i64 E))
  have FIN : Hid (Played w E (.returned (ansV E)) (put8 V (w.heap.size + 1) (.int .i64 0) (.int .i64 0) (.slice none 0 0) (.slice none 0 0) (.int .u64 0) (.int .i64 0) (.bool false) (.int .i64 E))) := ⟨rfl, bset (bset (bset (bset (bset (bset (bset (bset G2.out (by omega)) (by omega)) (by omega)) (by omega)) (by omega)) (by omega)) (by omega)) (by omega)⟩
  clear HR b1 x0 x1 x2 x3 x4 x5 EW G0 PX PR PX1 PR1 G1 PX2 PR2 G2 hV
  go_wp2
  rw [EV.out]
  exact bodyPost_ret (ansback Tryz.results32 PF.out _ (by rfl)) rfl FIN.out
set_option maxHeartbeats 1600000 in
set_option maxRecDepth 100000 in
theorem plays_Solve {w : World} {r c : Int} {a : Option Addr} {l cap p : Nat} {s : Bool} {E : Int} (hc : ChkAt w r c a l cap s) (hE : faultE s ((0 : Int) == c) p = E) (hE0 : (E != 0) = true) : Calls Tryz.prog 32 #[opV 9 r c a l cap p] w (Played w E) := by
  obtain ⟨W0, hW⟩ : ∃ W0, ((w.alloc (opO 9 r c a l cap p)).alloc (ansO 0)).alloc (ansO 0) = W0 := ⟨_, rfl⟩
  have b0 : Below w.heap.size w W0 := by rw [← hW]; exact (((Below.refl _ _).alloc (Nat.le_refl _) _).alloc (by simp) _).alloc (by simp; omega) _
  have PO : Hid (Cel W0 w.heap.size 61 (opC 9 r c a l cap p)) := by
    unfold Hid; rw [← hW]
    exact ((Cel.new w _ _).step (alo12 _ _).1).step (alo12 _ _).1
  have PR : Hid (Cel W0 (w.heap.size + 1) 58 (ansC 0)) := by
    unfold Hid; rw [← hW]
    have := (Cel.new (w.alloc (opO 9 r c a l cap p)) 58 (ansC 0)).step (alo12 _ (ansO 0)).1
    simpa using this
  have PX : Hid (Cel W0 (w.heap.size + 2) 58 (ansC 0)) := by
    unfold Hid; rw [← hW]
    have := Cel.new ((w.alloc (opO 9 r c a l cap p)).alloc (ansO 0)) 58 (ansC 0)
    simpa using this
  have HR := hid (refuse_Solve (hc.now b0) hE hE0)
  have x0 := PO.out.at (i := 0) rfl
  have x1 := PO.out.at (i := 1) rfl
  have x2 := PO.out.at (i := 2) rfl
  have x3 := PO.out.at (i := 3) rfl
  have x4 := PO.out.at (i := 4) rfl
  have x5 := PO.out.at (i := 5) rfl
  rw [← hW] at x0 x1 x2 x3 x4 x5
  have G0 := hid b0
  have EW := hid hW
  clear b0 hW hc hE hE0 PO
  go_enter Tryz.func32, Tryz.ntmps32
  go_wp2_with fail
  rw [EW.out]
  refine HR.out.mono ?_
  rintro e w1 ⟨rfl, b1⟩
  have PX1 := hid (PX.out.step b1)
  have PR1 := hid (PR.out.step b1)
  have G1 := hid (below_step G0.out b1)
  obtain ⟨V, hV⟩ : ∃ V, (w1.setCell ⟨w.heap.size + 2, 3, none⟩ (.slice none 0 0)).setCell ⟨w.heap.size + 2, 7, none⟩ (.int .i64 E) = V := ⟨_, rfl⟩
  have PX2 : Hid (Cel V (w.heap.size + 2) 58 (ansC E)) := by unfold Hid; rw [← hV]; exact ((PX1.out.set 3 (.slice none 0 0)).set 7 (.int .i64 E))
  have PR2 : Hid (Cel V (w.heap.size + 1) 58 (ansC 0)) := by unfold Hid; rw [← hV]; exact ((PR1.out.ne (by omega)).ne (by omega))
  have G2 : Hid (Below w.heap.size w V) := by unfold Hid; rw [← hV]; exact (bset (bset G1.out (by omega)) (by omega))
  have y3 := PX1.out.at (i := 3) rfl
  have fy3 := PX1.out.fz 3
  have y7 := PX1.out.at (i := 7) rfl
  have fy7 := PX1.out.fz 7
  have u0 := PX2.out.at (i := 0) rfl
  have v0 := PR2.out.at (i := 0) rfl
  have g0 := PR2.out.fz 0
  have u1 := PX2.out.at (i := 1) rfl
  have v1 := PR2.out.at (i := 1) rfl
  have g1 := PR2.out.fz 1
  have u2 := PX2.out.at (i := 2) rfl
  have v2 := PR2.out.at (i := 2) rfl
  have g2 := PR2.out.fz 2
  have u3 := PX2.out.at (i := 3) rfl
  have v3 := PR2.out.at (i := 3) rfl
  have g3 := PR2.out.fz 3
  have u4 := PX2.out.at (i := 4) rfl
  have v4 := PR2.out.at (i := 4) rfl
  have g4 := PR2.out.fz 4
  have u5 := PX2.out.at (i := 5) rfl
  have v5 := PR2.out.at (i := 5) rfl
  have g5 := PR2.out.fz 5
  have u6 := PX2.out.at (i := 6) rfl
  have v6 := PR2.out.at (i := 6) rfl
  have g6 := PR2.out.fz 6
  have u7 := PX2.out.at (i := 7) rfl
  have v7 := PR2.out.at (i := 7) rfl
  have g7 := PR2.out.fz 7
  rw [← hV] at u0 v0 g0 u1 v1 g1 u2 v2 g2 u3 v3 g3 u4 v4 g4 u5 v5 g5 u6 v6 g6 u7 v7 g7
  have EV := hid hV
  have PF := hid (PR2.out.put8 (.int .i64 0) (.int .i64 0) (.slice none 0 0) (.slice none 0 0) (.int .u64 0) (.int .i64 0) (.bool false) (.int .i64 E))
  have FIN : Hid (Played w E (.returned (ansV E)) (put8 V (w.heap.size + 1) (.int .i64 0) (.int .i64 0) (.slice none 0 0) (.slice none 0 0) (.int .u64 0) (.int .i64 0) (.bool false) (.int .i64 E))) := ⟨rfl, bset (bset (bset (bset (bset (bset (bset (bset G2.out (by omega)) (by omega)) (by omega)) (by omega)) (by omega)) (by omega)) (by omega)) (by omega)⟩
  clear HR b1 x0 x1 x2 x3 x4 x5 EW G0 PX PR PX1 PR1 G1 PX2 PR2 G2 hV
  go_wp2
  rw [EV.out]
  exact bodyPost_ret (ansback Tryz.results32 PF.out _ (by rfl)) rfl FIN.out
end Go.Proofs.YtonmlmdnjjafhaaGreat
