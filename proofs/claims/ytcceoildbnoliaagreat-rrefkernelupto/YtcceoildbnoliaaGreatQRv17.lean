/-
  Rv17: fractions turned round in place.
-/
import Derived.Test.YtcceoildbnoliaaGreatQG417ToLk17
import Derived.Test.YtcceoildbnoliaaGreatQExt6ToRf11
import Derived.Test.YtcceoildbnoliaaGreatQNu17ToTk17
namespace Go.Proofs.YtcceoildbnoliaaGreat
open Go.RowKit
set_option linter.unusedVariables false
set_option linter.unusedSimpArgs false

def rv4 (n : Nat) (C : Nat → Nat → Value) : Nat → Nat → Value := fun j => C (n - 1 - j)
def rvk (n k : Nat) (C : Nat → Nat → Value) : Nat → Nat → Value := fun j => if j < k ∨ n - 1 - j < k then C (n - 1 - j) else C j
theorem rvk_zero (n : Nat) (C : Nat → Nat → Value) : cl4 n (rvk n 0 C) = cl4 n C := cl4_congr fun j hj => by unfold rvk; rw [if_neg (by omega)]
theorem rvk_end {n k : Nat} {C : Nat → Nat → Value} (h : n ≤ k + k + 1) : cl4 n (rvk n k C) = cl4 n (rv4 n C) := cl4_congr fun j hj => by
  unfold rvk rv4
  by_cases q : j < k ∨ n - 1 - j < k
  · rw [if_pos q]
  · rw [if_neg q, show n - 1 - j = j by omega]
theorem rvk_step {n k j : Nat} {C : Nat → Nat → Value} (h : k + k + 1 < n) (hj : j = n - 1 - k) : cl4 n (up4 (up4 (rvk n k C) k (C j)) j (C k)) = cl4 n (rvk n (k + 1) C) := cl4_congr fun i hi => by
  subst hj
  funext r
  unfold up4 rvk
  by_cases e1 : i = n - 1 - k
  · rw [if_pos e1, if_pos (by omega), e1, show n - 1 - (n - 1 - k) = k by omega]
  · rw [if_neg e1]
    by_cases e2 : i = k
    · rw [if_pos e2, if_pos (by omega), e2]
    · rw [if_neg e2]
      by_cases e3 : i < k ∨ n - 1 - i < k
      · rw [if_pos e3, if_pos (by omega)]
      · rw [if_neg e3, if_neg (by omega)]
theorem cl4_put {w : World} {g n j : Nat} {C : Nat → Nat → Value} {R : List Value} (h : Cel w g 47 (cl4 n C ++ R)) (hj : j < n) (D : Nat → Value) : Cel (put4q w g j (D 0) (D 1) (D 2) (D 3)) g 47 (cl4 n (up4 C j D) ++ R) := by
  have h1 := (((h.set (j * 4) (D 0)).set (j * 4 + 1) (D 1)).set (j * 4 + 2) (D 2)).set (j * 4 + 3) (D 3)
  have hl := cl4_len n C
  rw [List.set_append_left _ _ (by omega), List.set_append_left _ _ (by simp; omega), List.set_append_left _ _ (by simp; omega), List.set_append_left _ _ (by simp; omega), cl4_set hj] at h1
  exact h1
theorem cl4_cell {w : World} {g n j r : Nat} {C : Nat → Nat → Value} {R : List Value} (h : Cel w g 47 (cl4 n C ++ R)) (hj : j < n) (hr : r < 4) : w.cell? ⟨g, j * 4 + r, none⟩ = some (C j r) := h.at (by
  rw [List.getElem?_append_left (by rw [cl4_len]; omega)]; exact cl4_at hj hr)
set_option maxRecDepth 100000 in
set_option maxHeartbeats 6400000 in
theorem reverse_cel {w : World} {g n cap : Nat} {C : Nat → Nat → Value} {R : List Value} (hr : Cel w g 47 (cl4 n C ++ R)) (hf : ∀ j, j < n → IsQ (C j)) (hn : 0 < n) (hl : n ≤ 1048576) (hc : n ≤ cap) :
    Calls Tryz.prog 49 #[.slice (some ⟨g, 0, none⟩) n cap] w fun e w' => e = .returned (.tuple #[]) ∧ Cel w' g 47 (cl4 n (rv4 n C) ++ R) ∧ Touch (· = g) w w' := by
  have H0 : Hid (Cel w g 47 (cl4 n (rvk n 0 C) ++ R)) := by unfold Hid; rw [rvk_zero]; exact hr
  have HF := hid hf
  clear hr hf
  go_enter Tryz.func49, Tryz.ntmps49
  go_wp2_with fail
  go_loopw [2, 3] (fun i j wr => ∃ k : Nat, k + k ≤ n ∧ i = .int .i64 (k : Int) ∧ j = .int .i64 ((n : Int) - 1 - k) ∧ Hid (Cel wr g 47 (cl4 n (rvk n k C) ++ R)) ∧ Hid (Touch (· = g) w wr)) (fun i _ _ => n - (intOf i).toNat)
  case atStart => exact ⟨0, by omega, rfl, by simp, H0, Touch.refl _ _⟩
  case round =>
    clear H0
    obtain ⟨k, hk, rfl, rfl, HR, HT⟩ := hrel
    by_cases hlt : k + k + 1 < n
    · obtain ⟨j, hj⟩ : ∃ j, j = n - 1 - k := ⟨_, rfl⟩
      have ej : (n : Int) - 1 - (k : Int) = (j : Int) := by omega
      rw [ej]
      have HJ := hid ej
      have hkj : k < j := by omega
      have hkn : k < n := by omega
      have hjn : j < n := by omega
      obtain ⟨n1, a1, l1, c1, n2, a2, l2, c2, e0, e1, e2, e3⟩ := HF.out k hkn
      obtain ⟨m1, b1, o1, d1, m2, b2, o2, d2, f0, f1, f2, f3⟩ := HF.out j hjn
      have gk : ∀ r, rvk n k C k r = C k r := fun r => by unfold rvk; rw [if_neg (by omega)]
      have gj : ∀ r, rvk n k C j r = C j r := fun r => by unfold rvk; rw [if_neg (by omega)]
      have k0 := cl4_cell HR.out hkn (show 0 < 4 by omega)
      have k1 := cl4_cell HR.out hkn (show 1 < 4 by omega)
      have k2 := cl4_cell HR.out hkn (show 2 < 4 by omega)
      have k3 := cl4_cell HR.out hkn (show 3 < 4 by omega)
      have j0 := cl4_cell HR.out hjn (show 0 < 4 by omega)
      have j1 := cl4_cell HR.out hjn (show 1 < 4 by omega)
      have j2 := cl4_cell HR.out hjn (show 2 < 4 by omega)
      have j3 := cl4_cell HR.out hjn (show 3 < 4 by omega)
      rw [gk, e0, Nat.add_zero] at k0
      rw [gk, e1] at k1
      rw [gk, e2] at k2
      rw [gk, e3] at k3
      rw [gj, f0, Nat.add_zero] at j0
      rw [gj, f1] at j1
      rw [gj, f2] at j2
      rw [gj, f3] at j3
      have EE := hid (And.intro e0 (And.intro e1 (And.intro e2 e3)))
      have FE := hid (And.intro f0 (And.intro f1 (And.intro f2 f3)))
      have HJ2 := hid hj
      clear gk gj ej hj e0 e1 e2 e3 f0 f1 f2 f3
      go_wp2_with fail
      have KB : Hid (∀ w', Below wr.heap.size wr w' → w'.cell? ⟨g, k * 4, none⟩ = some (.bool n1) ∧ w'.cell? ⟨g, k * 4 + 1, none⟩ = some (.slice a1 l1 c1) ∧ w'.cell? ⟨g, k * 4 + 2, none⟩ = some (.bool n2) ∧ w'.cell? ⟨g, k * 4 + 3, none⟩ = some (.slice a2 l2 c2) ∧ w'.cell? ⟨g, j * 4, none⟩ = some (.bool m1) ∧ w'.cell? ⟨g, j * 4 + 1, none⟩ = some (.slice b1 o1 d1) ∧ w'.cell? ⟨g, j * 4 + 2, none⟩ = some (.bool m2) ∧ w'.cell? ⟨g, j * 4 + 3, none⟩ = some (.slice b2 o2 d2)) := fun w' h => ⟨cnow h k0, cnow h k1, cnow h k2, cnow h k3, cnow h j0, cnow h j1, cnow h j2, cnow h j3⟩
      refine wp_region_X (fun w' => w'.cell? ⟨g, k * 4, none⟩ = some (.bool n1) ∧ w'.cell? ⟨g, k * 4 + 1, none⟩ = some (.slice a1 l1 c1) ∧ w'.cell? ⟨g, k * 4 + 2, none⟩ = some (.bool n2) ∧ w'.cell? ⟨g, k * 4 + 3, none⟩ = some (.slice a2 l2 c2) ∧ w'.cell? ⟨g, j * 4, none⟩ = some (.bool m1) ∧ w'.cell? ⟨g, j * 4 + 1, none⟩ = some (.slice b1 o1 d1) ∧ w'.cell? ⟨g, j * 4 + 2, none⟩ = some (.bool m2) ∧ w'.cell? ⟨g, j * 4 + 3, none⟩ = some (.slice b2 o2 d2)) [13, 15] (by kernel_rfl) ?_
      obtain ⟨D1, hD⟩ : ∃ D1, wr.drew = D1 := ⟨_, rfl⟩
      have GB : Hid (Below wr.heap.size wr D1) := by unfold Hid; rw [← hD]; exact (Below.refl _ _).drew
      rw [hD]
      clear hD
      refine wpAnyX_pure (i := 0) (oi := { dst := some 14, op := Op.move (Operand.tmp 0), type := 22, pos := "slices.go:485", after := #[], guard := none }) (v := (.slice (some ⟨g, 0, none⟩) n cap)) rfl (by kernel_rfl) (fun _ _ _ h => h) (Or.inl ⟨by rfl, ?_⟩)  ?_
      · intro w hSw
        (try dsimp only at hSw)
        go_simp
      simp only [Act.put, List.setIfInBounds_toArray, List.set_cons_zero, List.set_cons_succ]
      refine wpAnyX_pure (i := 1) (oi := { dst := some 15, op := Op.move (Operand.tmp 2), type := 3, pos := "slices.go:485", after := #[], guard := none }) (v := (.int .i64 (k : Int))) rfl (by kernel_rfl) (fun _ _ _ h => h) (Or.inl ⟨by rfl, ?_⟩)  ?_
      · intro w hSw
        (try dsimp only at hSw)
        go_simp
      simp only [Act.put, List.setIfInBounds_toArray, List.set_cons_zero, List.set_cons_succ]
      refine wpAnyX_pure (i := 2) (oi := { dst := some 16, op := Op.move (Operand.tmp 0), type := 22, pos := "slices.go:485", after := #[{ on := 13, ground := Ground.gcOnly Departure.lateStores }], guard := none }) (v := (.slice (some ⟨g, 0, none⟩) n cap)) rfl (by kernel_rfl) (fun _ _ _ h => h) (Or.inl ⟨by rfl, ?_⟩)  ?_
      · intro w hSw
        (try dsimp only at hSw)
        go_simp
      simp only [Act.put, List.setIfInBounds_toArray, List.set_cons_zero, List.set_cons_succ]
      refine wpAnyX_pure (i := 3) (oi := { dst := some 17, op := Op.move (Operand.tmp 3), type := 3, pos := "slices.go:485", after := #[{ on := 13, ground := Ground.gcOnly Departure.lateStores }], guard := none }) (v := (.int .i64 (j : Int))) rfl (by kernel_rfl) (fun _ _ _ h => h) (Or.inl ⟨by rfl, ?_⟩)  ?_
      · intro w hSw
        (try dsimp only at hSw)
        go_simp
      simp only [Act.put, List.setIfInBounds_toArray, List.set_cons_zero, List.set_cons_succ]
      refine wpAnyX_pure (i := 4) (oi := { dst := some 18, op := Op.move (Operand.tmp 0), type := 22, pos := "slices.go:485", after := #[], guard := none }) (v := (.slice (some ⟨g, 0, none⟩) n cap)) rfl (by kernel_rfl) (fun _ _ _ h => h) (Or.inl ⟨by rfl, ?_⟩)  ?_
      · intro w hSw
        (try dsimp only at hSw)
        go_simp
      simp only [Act.put, List.setIfInBounds_toArray, List.set_cons_zero, List.set_cons_succ]
      refine wpAnyX_pure (i := 5) (oi := { dst := some 19, op := Op.move (Operand.tmp 3), type := 3, pos := "slices.go:485", after := #[], guard := none }) (v := (.int .i64 (j : Int))) rfl (by kernel_rfl) (fun _ _ _ h => h) (Or.inl ⟨by rfl, ?_⟩)  ?_
      · intro w hSw
        (try dsimp only at hSw)
        go_simp
      simp only [Act.put, List.setIfInBounds_toArray, List.set_cons_zero, List.set_cons_succ]
      refine wpAnyX_pure (i := 6) (oi := { dst := some 20, op := Op.indexAddr 22 (Operand.tmp 18) (Operand.tmp 19), type := 0, pos := "slices.go:485", after := #[{ on := 4, ground := Ground.data }, { on := 5, ground := Ground.data }], guard := none }) (v := (.pointer (some ⟨g, j * 4, none⟩))) rfl (by kernel_rfl) (fun _ _ _ h => h) (Or.inl ⟨by rfl, ?_⟩)  ?_
      · intro w hSw
        (try dsimp only at hSw)
        go_simp
      simp only [Act.put, List.setIfInBounds_toArray, List.set_cons_zero, List.set_cons_succ]
      refine wpAnyX_takeK [12, 14] (i := 7) (oi := { dst := some 21, op := Op.load 47 (Operand.tmp 20), type := 47, pos := "slices.go:485", after := #[{ on := 6, ground := Ground.data }], guard := none }) (v := (.agg #[(.bool m1), (.slice b1 o1 d1), (.bool m2), (.slice b2 o2 d2)])) rfl (by kernel_rfl) (fun _ _ _ h => h) (Or.inl ⟨by rfl, ?_⟩) (KB.out _ GB.out) ?_
      · intro w hSw
        (try dsimp only at hSw)
        go_simp
      simp only [Act.put, List.setIfInBounds_toArray, List.set_cons_zero, List.set_cons_succ]
      refine wpAnyX_pure (i := 8) (oi := { dst := some 22, op := Op.move (Operand.tmp 0), type := 22, pos := "slices.go:485", after := #[], guard := none }) (v := (.slice (some ⟨g, 0, none⟩) n cap)) rfl (by kernel_rfl) (fun _ _ _ h => h) (Or.inl ⟨by rfl, ?_⟩)  ?_
      · intro w hSw
        (try dsimp only at hSw)
        go_simp
      simp only [Act.put, List.setIfInBounds_toArray, List.set_cons_zero, List.set_cons_succ]
      refine wpAnyX_pure (i := 9) (oi := { dst := some 23, op := Op.move (Operand.tmp 2), type := 3, pos := "slices.go:485", after := #[], guard := none }) (v := (.int .i64 (k : Int))) rfl (by kernel_rfl) (fun _ _ _ h => h) (Or.inl ⟨by rfl, ?_⟩)  ?_
      · intro w hSw
        (try dsimp only at hSw)
        go_simp
      simp only [Act.put, List.setIfInBounds_toArray, List.set_cons_zero, List.set_cons_succ]
      refine wpAnyX_pure (i := 10) (oi := { dst := some 24, op := Op.indexAddr 22 (Operand.tmp 22) (Operand.tmp 23), type := 0, pos := "slices.go:485", after := #[{ on := 8, ground := Ground.data }, { on := 9, ground := Ground.data }], guard := none }) (v := (.pointer (some ⟨g, k * 4, none⟩))) rfl (by kernel_rfl) (fun _ _ _ h => h) (Or.inl ⟨by rfl, ?_⟩)  ?_
      · intro w hSw
        (try dsimp only at hSw)
        go_simp
      simp only [Act.put, List.setIfInBounds_toArray, List.set_cons_zero, List.set_cons_succ]
      refine wpAnyX_takeK [12, 14] (i := 11) (oi := { dst := some 25, op := Op.load 47 (Operand.tmp 24), type := 47, pos := "slices.go:485", after := #[{ on := 10, ground := Ground.data }], guard := none }) (v := (.agg #[(.bool n1), (.slice a1 l1 c1), (.bool n2), (.slice a2 l2 c2)])) rfl (by kernel_rfl) (fun _ _ _ h => h) (Or.inl ⟨by rfl, ?_⟩) (KB.out _ GB.out) ?_
      · intro w hSw
        (try dsimp only at hSw)
        go_simp
      simp only [Act.put, List.setIfInBounds_toArray, List.set_cons_zero, List.set_cons_succ]
      refine wpAnyX_pure (i := 12) (oi := { dst := some 26, op := Op.indexAddr 22 (Operand.tmp 14) (Operand.tmp 15), type := 0, pos := "slices.go:485", after := #[{ on := 0, ground := Ground.data }, { on := 1, ground := Ground.data }, { on := 0, ground := Ground.phase }, { on := 1, ground := Ground.phase }, { on := 2, ground := Ground.textOnly Departure.lateStores }, { on := 3, ground := Ground.textOnly Departure.lateStores }, { on := 4, ground := Ground.phase }, { on := 5, ground := Ground.phase }, { on := 6, ground := Ground.phase }, { on := 7, ground := Ground.phase }, { on := 8, ground := Ground.textOnly Departure.lateStores }, { on := 9, ground := Ground.textOnly Departure.lateStores }, { on := 10, ground := Ground.textOnly Departure.lateStoresUnsure }, { on := 11, ground := Ground.phase }], guard := none }) (v := (.pointer (some ⟨g, k * 4, none⟩))) rfl (by kernel_rfl) (fun _ _ _ h => h) (Or.inl ⟨by rfl, ?_⟩)  ?_
      · intro w hSw
        (try dsimp only at hSw)
        go_simp
      simp only [Act.put, List.setIfInBounds_toArray, List.set_cons_zero, List.set_cons_succ]
      refine wpAnyX_one (i := 13) (o := { dst := none, op := Op.store 47 (Operand.tmp 26) (Operand.tmp 21), type := 0, pos := "slices.go:485", after := #[{ on := 12, ground := Ground.data }, { on := 7, ground := Ground.data }, { on := 0, ground := Ground.phase }, { on := 1, ground := Ground.phase }, { on := 2, ground := Ground.textOnly Departure.lateStores }, { on := 3, ground := Ground.textOnly Departure.lateStores }, { on := 4, ground := Ground.phase }, { on := 5, ground := Ground.phase }, { on := 6, ground := Ground.phase }, { on := 7, ground := Ground.phase }, { on := 8, ground := Ground.textOnly Departure.lateStores }, { on := 9, ground := Ground.textOnly Departure.lateStores }, { on := 10, ground := Ground.textOnly Departure.lateStoresUnsure }, { on := 11, ground := Ground.phase }], guard := none }) (by kernel_rfl) rfl (fun K hK => ?_)
      have HD := hid (HR.out.step GB.out)
      obtain ⟨e0, e1, e2, e3⟩ := EE.out
      obtain ⟨f0, f1, f2, f3⟩ := FE.out
      have gk : ∀ r, rvk n k C k r = C k r := fun r => by have hj := HJ2.out; unfold rvk; rw [if_neg (by omega)]
      have h0 := cl4_cell HD.out hkn (show 0 < 4 by omega)
      have v0 := (show Cel _ _ _ _ from HD.out).fz (k * 4)
      rw [gk, e0, Nat.add_zero] at h0
      have h1 := cl4_cell HD.out hkn (show 1 < 4 by omega)
      have v1 := (show Cel _ _ _ _ from HD.out).fz (k * 4 + 1)
      rw [gk, e1] at h1
      have h2 := cl4_cell HD.out hkn (show 2 < 4 by omega)
      have v2 := (show Cel _ _ _ _ from HD.out).fz (k * 4 + 2)
      rw [gk, e2] at h2
      have h3 := cl4_cell HD.out hkn (show 3 < 4 by omega)
      have v3 := (show Cel _ _ _ _ from HD.out).fz (k * 4 + 3)
      rw [gk, e3] at h3
      go_simp
      clear h0 v0 h1 v1 h2 v2 h3 v3 e0 e1 e2 e3 f0 f1 f2 f3 gk
      obtain ⟨V2, hW⟩ : ∃ V2, ((((D1.setCell ⟨g, k * 4, none⟩ (.bool m1)).setCell ⟨g, k * 4 + 1, none⟩ (.slice b1 o1 d1)).setCell ⟨g, k * 4 + 2, none⟩ (.bool m2)).setCell ⟨g, k * 4 + 3, none⟩ (.slice b2 o2 d2)) = V2 := ⟨_, rfl⟩
      have HP : Hid (Cel V2 g 47 (cl4 n (up4 (rvk n k C) k (C j)) ++ R)) := by
        unfold Hid
        have h1 := cl4_put HD.out hkn (C j)
        obtain ⟨f0, f1, f2, f3⟩ := FE.out
        rw [f0, f1, f2, f3] at h1
        rw [← hW]
        exact h1
      have TP : Hid (Touch (· = g) w V2) := by
        unfold Hid
        rw [← hW]
        exact ((((HT.out.trans (Touch.ofBelow GB.out)).setCell (.inr rfl) _ _).setCell (.inr rfl) _ _).setCell (.inr rfl) _ _).setCell (.inr rfl) _ _
      clear HD
      rw [hW]
      clear hW
      refine hK.out _ _ (fun h => absurd h (by decide)) ?_
      clear hK
      try simp only [Act.put]
      refine wpAnyX_pure (i := 14) (oi := { dst := some 27, op := Op.indexAddr 22 (Operand.tmp 16) (Operand.tmp 17), type := 0, pos := "slices.go:485", after := #[{ on := 2, ground := Ground.data }, { on := 3, ground := Ground.data }, { on := 0, ground := Ground.phase }, { on := 1, ground := Ground.phase }, { on := 2, ground := Ground.phase }, { on := 3, ground := Ground.phase }, { on := 4, ground := Ground.phase }, { on := 5, ground := Ground.phase }, { on := 6, ground := Ground.phase }, { on := 7, ground := Ground.phase }, { on := 8, ground := Ground.phase }, { on := 9, ground := Ground.phase }, { on := 10, ground := Ground.phase }, { on := 11, ground := Ground.phase }, { on := 12, ground := Ground.phase }, { on := 13, ground := Ground.phase }], guard := none }) (v := (.pointer (some ⟨g, j * 4, none⟩))) rfl (by kernel_rfl) (fun _ _ _ h => h) (Or.inl ⟨by rfl, ?_⟩)  ?_
      · intro w hSw
        (try dsimp only at hSw)
        go_simp
      simp only [Act.put, List.setIfInBounds_toArray, List.set_cons_zero, List.set_cons_succ]
      refine wpAnyX_one (i := 15) (o := { dst := none, op := Op.store 47 (Operand.tmp 27) (Operand.tmp 25), type := 0, pos := "slices.go:485", after := #[{ on := 14, ground := Ground.data }, { on := 11, ground := Ground.data }, { on := 13, ground := Ground.chain }, { on := 0, ground := Ground.phase }, { on := 1, ground := Ground.phase }, { on := 2, ground := Ground.phase }, { on := 3, ground := Ground.phase }, { on := 4, ground := Ground.phase }, { on := 5, ground := Ground.phase }, { on := 6, ground := Ground.phase }, { on := 7, ground := Ground.phase }, { on := 8, ground := Ground.phase }, { on := 9, ground := Ground.phase }, { on := 10, ground := Ground.phase }, { on := 11, ground := Ground.phase }, { on := 12, ground := Ground.phase }, { on := 13, ground := Ground.phase }], guard := none }) (by kernel_rfl) rfl (fun K hK => ?_)
      obtain ⟨e0, e1, e2, e3⟩ := EE.out
      obtain ⟨f0, f1, f2, f3⟩ := FE.out
      have gu : ∀ r, up4 (rvk n k C) k (C j) j r = C j r := fun r => by unfold up4; have hj := HJ2.out; rw [if_neg (by omega)]; unfold rvk; rw [if_neg (by omega)]
      have h0 := cl4_cell HP.out hjn (show 0 < 4 by omega)
      have v0 := (show Cel _ _ _ _ from HP.out).fz (j * 4)
      rw [gu, f0, Nat.add_zero] at h0
      have h1 := cl4_cell HP.out hjn (show 1 < 4 by omega)
      have v1 := (show Cel _ _ _ _ from HP.out).fz (j * 4 + 1)
      rw [gu, f1] at h1
      have h2 := cl4_cell HP.out hjn (show 2 < 4 by omega)
      have v2 := (show Cel _ _ _ _ from HP.out).fz (j * 4 + 2)
      rw [gu, f2] at h2
      have h3 := cl4_cell HP.out hjn (show 3 < 4 by omega)
      have v3 := (show Cel _ _ _ _ from HP.out).fz (j * 4 + 3)
      rw [gu, f3] at h3
      go_simp
      clear h0 v0 h1 v1 h2 v2 h3 v3 e0 e1 e2 e3 f0 f1 f2 f3 gu
      obtain ⟨V3, hW⟩ : ∃ V3, ((((V2.setCell ⟨g, j * 4, none⟩ (.bool n1)).setCell ⟨g, j * 4 + 1, none⟩ (.slice a1 l1 c1)).setCell ⟨g, j * 4 + 2, none⟩ (.bool n2)).setCell ⟨g, j * 4 + 3, none⟩ (.slice a2 l2 c2)) = V3 := ⟨_, rfl⟩
      have HS3 : Hid (Cel V3 g 47 (cl4 n (rvk n (k + 1) C) ++ R)) := by
        unfold Hid
        have h1 := cl4_put HP.out hjn (C k)
        obtain ⟨e0, e1, e2, e3⟩ := EE.out
        rw [rvk_step hlt HJ2.out, e0, e1, e2, e3] at h1
        rw [← hW]
        exact h1
      have HT3 : Hid (Touch (· = g) w V3) := by
        unfold Hid
        rw [← hW]
        exact (((TP.out.setCell (.inr rfl) _ _).setCell (.inr rfl) _ _).setCell (.inr rfl) _ _).setCell (.inr rfl) _ _
      clear HP TP
      rw [hW]
      clear hW
      refine hK.out _ _ (fun h => absurd h (by decide)) ?_
      clear hK
      try simp only [Act.put]
      refine wpAnyX_done (by kernel_rfl) ?_ _
      clear GB KB HR HT EE FE k0 k1 k2 k3 j0 j1 j2 j3
      go_wp2
      go_roundw
      case rel => exact ⟨k + 1, by omega, by go_num, by rw [show (j : Int) - 1 = (n : Int) - 1 - ((k + 1 : Nat) : Int) by have := HJ.out; omega], HS3, HT3⟩
      case measure => first | (simp [intOf]; done) | (simp [intOf]; omega)
    · have hnl : ¬ (k : Int) < (n : Int) - 1 - (k : Int) := by omega
      rw [rvk_end (by omega)] at HR
      generalize (n : Int) - 1 - (k : Int) = jj at *
      go_wp2
      go_end0
      exact ⟨rfl, HR.out, HT.out⟩
/-- Of nothing. -/
theorem reverse_none {w : World} {a : Option Addr} {cap : Nat} : Calls Tryz.prog 49 #[.slice a 0 cap] w fun e w' => e = .returned (.tuple #[]) ∧ w' = w := by
  go_enter Tryz.func49, Tryz.ntmps49
  go_wp2_with fail
  go_loopw [2, 3] (fun i j wr => i = .int .i64 0 ∧ j = .int .i64 (-1) ∧ wr = w) (fun _ _ _ => 0)
  case atStart => exact ⟨rfl, rfl, rfl⟩
  case round =>
    obtain ⟨rfl, rfl, rfl⟩ := hrel
    go_wp2
    go_end0
    exact ⟨rfl, rfl⟩
/-- A list that grew by append, turned round. -/
theorem reverse4 {B : Nat} {w : World} {v : Value} {n : Nat} {C : Nat → Nat → Value} (h : Own4 B w v n C) (hl : n ≤ 1048576) :
    Calls Tryz.prog 49 #[v] w fun e w' => e = .returned (.tuple #[]) ∧ Own4 B w' v n (rv4 n C) ∧ Touch (fun b => v.ownBlock = some b) w w' := by
  have h0 := h
  obtain ⟨⟨q1, ⟨q2, q3⟩ | ⟨g, cap, cur, q2, q3, q4, q5, q6, q7, q8⟩⟩, hq⟩ := h
  · subst q2 q3
    exact reverse_none.mono fun e w' ⟨e1, e2⟩ => by subst e2; exact ⟨e1, Own4.nil _ _ _, Touch.refl _ _⟩
  · subst q2
    by_cases hn : n = 0
    · subst hn
      exact reverse_none.mono fun e w' ⟨e1, e2⟩ => by subst e2; exact ⟨e1, h0.congr fun j hj => by omega, Touch.refl _ _⟩
    · have e := List.take_append_drop (n * 4) cur.toList
      rw [q8] at e
      have hr : Cel w g 47 (cl4 n C ++ cur.toList.drop (n * 4)) := by
        unfold Cel; rw [e]; simpa using q4
      have hsz : (cl4 n C ++ cur.toList.drop (n * 4)).length = cap * 4 := by rw [e, Array.length_toList]; exact q7
      refine (reverse_cel hr hq (by omega) hl q5).mono fun e w' ⟨r1, r2, r3⟩ => ⟨r1, ⟨⟨by rw [cl4_len], .inr ⟨g, cap, _, rfl, q3, r2, q5, q6, ?_, ?_⟩⟩, fun j hj => hq _ (by omega)⟩, ⟨r3.os, r3.tape, r3.output, r3.size, fun b hb q => r3.block b hb fun p => q (by have p' : b = g := p; subst p'; rfl)⟩⟩
      · rw [List.length_append, cl4_len] at hsz
        simp [cl4_len]
        simpa using hsz
      · rw [List.toList_toArray, List.take_append_of_le_length (by rw [cl4_len]; exact Nat.le_refl _), List.take_of_length_le (by rw [cl4_len]; exact Nat.le_refl _)]
end Go.Proofs.YtcceoildbnoliaaGreat
