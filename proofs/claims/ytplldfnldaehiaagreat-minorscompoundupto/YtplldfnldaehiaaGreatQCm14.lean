import Derived.Test.YtplldfnldaehiaaGreatQCp14
import Derived.Test.YtplldfnldaehiaaGreatQMn14ToAj14
set_option maxRecDepth 100000
set_option maxHeartbeats 6400000
set_option linter.unusedVariables false
set_option linter.unusedSimpArgs false
namespace Go.Proofs.YtplldfnldaehiaaGreat
open Go.RowKit
theorem msz_no {w : World} {r c : Int} {a : Option Addr} {l cap : Nat} {kv : Int} (h : ¬ Snd r c l) : Calls Tryz.prog 23 #[.agg #[.int .i64 r, .int .i64 c, .slice a l cap], .int .i64 kv] w fun e w' => e = .returned (.int .i64 1) ∧ Below w.heap.size w w' := by
 obtain ⟨W0, hW⟩ : ∃ W0, w.alloc (.cells #[.int .i64 r, .int .i64 c, .slice a l cap] 24) = W0 := ⟨_, rfl⟩
 obtain ⟨b0, sz0⟩ := alo1 w (.cells #[.int .i64 r, .int .i64 c, .slice a l cap] 24)
 rw [hW] at b0 sz0
 have HC := hid (check_no (w := W0) (a := a) (cap := cap) h)
 have G := hid b0
 have EW := hid hW
 clear h b0 sz0 hW
 go_enter Tryz.func23, Tryz.ntmps23
 go_wp2_with fail
 rw [EW.out]
 refine HC.out.mono ?_
 rintro e w1 ⟨rfl, b⟩
 have G1 := hid (below_step G.out b)
 clear HC b
 go_wp2
 go_ret
 exact ⟨rfl, G1.out⟩
theorem msz_neg {w : World} {v : Value} {r c : Nat} {kv : Int} {zs : List Int} {k : Nat} (h : Mx w v r c zs k) (hk : kv < 0) : Calls Tryz.prog 23 #[v, .int .i64 kv] w fun e w' => e = .returned (.int .i64 3) ∧ Below w.heap.size w w' := by
 have M0 := h
 obtain ⟨aa, ca, rfl, hr, hc⟩ := h.form
 obtain ⟨la, hla⟩ : ∃ la, r * c = la := ⟨_, rfl⟩
 rw [hla] at M0 ⊢
 obtain ⟨W0, hW⟩ : ∃ W0, w.alloc (matO r c (.slice aa la ca)) = W0 := ⟨_, rfl⟩
 obtain ⟨b0, sz0⟩ := alo1 w (matO r c (.slice aa la ca))
 rw [hW] at b0 sz0
 have P0 : Hid (Cel W0 w.heap.size 24 (matc r c (.slice aa la ca))) := by unfold Hid; rw [← hW]; exact Cel.new w _ _
 have HC := hid (check_yes (M0.now b0))
 have G := hid b0
 have EW := hid hW
 have q1d : decide (kv < 0) = true := decide_eq_true hk
 clear h M0 b0 sz0 hW hla hk
 go_enter Tryz.func23, Tryz.ntmps23
 go_wp2_with fail
 rw [EW.out]
 refine HC.out.mono ?_
 rintro e w1 ⟨rfl, b⟩
 have G1 := hid (below_step G.out b)
 have x0 := (P0.out.step b).at (i := 0) rfl
 have x1 := (P0.out.step b).at (i := 1) rfl
 clear HC b
 go_wp2
 go_ret
 exact ⟨rfl, G1.out⟩
theorem msz_big {w : World} {v : Value} {r c : Nat} {kv : Int} {zs : List Int} {k : Nat} (h : Mx w v r c zs k) (hk : 0 ≤ kv ∧ ((r : Int) < kv ∨ (c : Int) < kv)) : Calls Tryz.prog 23 #[v, .int .i64 kv] w fun e w' => e = .returned (.int .i64 3) ∧ Below w.heap.size w w' := by
 have M0 := h
 obtain ⟨aa, ca, rfl, hr, hc⟩ := h.form
 obtain ⟨la, hla⟩ : ∃ la, r * c = la := ⟨_, rfl⟩
 rw [hla] at M0 ⊢
 obtain ⟨W0, hW⟩ : ∃ W0, w.alloc (matO r c (.slice aa la ca)) = W0 := ⟨_, rfl⟩
 obtain ⟨b0, sz0⟩ := alo1 w (matO r c (.slice aa la ca))
 rw [hW] at b0 sz0
 have P0 : Hid (Cel W0 w.heap.size 24 (matc r c (.slice aa la ca))) := by unfold Hid; rw [← hW]; exact Cel.new w _ _
 have HC := hid (check_yes (M0.now b0))
 have G := hid b0
 have EW := hid hW
 have q1d : decide (kv < 0) = false := decide_eq_false (by omega)
 have q2d : decide (min (r : Int) (c : Int) < kv) = true := decide_eq_true (by omega)
 clear h M0 b0 sz0 hW hla hk
 go_enter Tryz.func23, Tryz.ntmps23
 go_wp2_with fail
 rw [EW.out]
 refine HC.out.mono ?_
 rintro e w1 ⟨rfl, b⟩
 have G1 := hid (below_step G.out b)
 have x0 := (P0.out.step b).at (i := 0) rfl
 have x1 := (P0.out.step b).at (i := 1) rfl
 clear HC b
 go_wp2
 go_ret
 exact ⟨rfl, G1.out⟩
theorem msz_yes {w : World} {v : Value} {r c : Nat} {kv : Int} {zs : List Int} {k : Nat} (h : Mx w v r c zs k) (hk : 0 ≤ kv ∧ kv ≤ (r : Int) ∧ kv ≤ (c : Int)) : Calls Tryz.prog 23 #[v, .int .i64 kv] w fun e w' => e = .returned (.int .i64 0) ∧ Below w.heap.size w w' := by
 have M0 := h
 obtain ⟨aa, ca, rfl, hr, hc⟩ := h.form
 obtain ⟨la, hla⟩ : ∃ la, r * c = la := ⟨_, rfl⟩
 rw [hla] at M0 ⊢
 obtain ⟨W0, hW⟩ : ∃ W0, w.alloc (matO r c (.slice aa la ca)) = W0 := ⟨_, rfl⟩
 obtain ⟨b0, sz0⟩ := alo1 w (matO r c (.slice aa la ca))
 rw [hW] at b0 sz0
 have P0 : Hid (Cel W0 w.heap.size 24 (matc r c (.slice aa la ca))) := by unfold Hid; rw [← hW]; exact Cel.new w _ _
 have HC := hid (check_yes (M0.now b0))
 have G := hid b0
 have EW := hid hW
 have q1d : decide (kv < 0) = false := decide_eq_false (by omega)
 have q2d : decide (min (r : Int) (c : Int) < kv) = false := decide_eq_false (by omega)
 clear h M0 b0 sz0 hW hla hk
 go_enter Tryz.func23, Tryz.ntmps23
 go_wp2_with fail
 rw [EW.out]
 refine HC.out.mono ?_
 rintro e w1 ⟨rfl, b⟩
 have G1 := hid (below_step G.out b)
 have x0 := (P0.out.step b).at (i := 0) rfl
 have x1 := (P0.out.step b).at (i := 1) rfl
 clear HC b
 go_wp2
 go_ret
 exact ⟨rfl, G1.out⟩
theorem com_of {w : World} {r c : Int} {a : Option Addr} {l cap : Nat} {E kv : Int} (hE : E = 1 ∨ E = 3)
  (h : ∀ w', Below w.heap.size w w' → Calls Tryz.prog 23 #[.agg #[.int .i64 r, .int .i64 c, .slice a l cap], .int .i64 kv] w' fun e w'' => e = .returned (.int .i64 E) ∧ Below w'.heap.size w' w'') :
  Calls Tryz.prog 6 #[.agg #[.int .i64 r, .int .i64 c, .slice a l cap], .int .i64 kv] w (GivesME w E) := by
 obtain ⟨W0, hW⟩ : ∃ W0, (w.alloc (.cells #[.int .i64 r, .int .i64 c, .slice a l cap] 24)).alloc mbox = W0 := ⟨_, rfl⟩
 obtain ⟨b0, sz0⟩ := alloc2 w (.cells #[.int .i64 r, .int .i64 c, .slice a l cap] 24) mbox
 rw [hW] at b0 sz0
 have PR : Hid (Cel W0 (w.heap.size + 1) 24 [.int .i64 0, .int .i64 0, .slice none 0 0]) := by
  unfold Hid; rw [← hW]
  have := Cel.new (w.alloc (.cells #[.int .i64 r, .int .i64 c, .slice a l cap] 24)) 24 [.int .i64 0, .int .i64 0, .slice none 0 0]
  simpa using this
 have HC := hid (h W0 b0)
 have G := hid b0
 have EW := hid hW
 have SZ := hid sz0
 have hne : ¬ E = 0 := by omega
 have hnb : (E != 0) = true := by simp; omega
 clear h b0 sz0 hW hE
 go_enter Tryz.func6, Tryz.ntmps6
 go_wp2_with fail
 rw [EW.out]
 refine HC.out.mono ?_
 rintro e w1 ⟨rfl, b⟩
 have PR1 := hid (PR.out.step b)
 have G1 := hid (below_step G.out b)
 have r0 := PR1.out.at (i := 0) rfl
 have r1 := PR1.out.at (i := 1) rfl
 have r2 := PR1.out.at (i := 2) rfl
 have f0 := PR1.out.fz 0
 have f1 := PR1.out.fz 1
 have f2 := PR1.out.fz 2
 have FIN : Hid (GivesME w E (.returned (.tuple #[mzero, .int .i64 E])) (put3 w1 (w.heap.size + 1) (.int .i64 0) (.int .i64 0) (.slice none 0 0))) := ⟨rfl, below_put3 G1.out (by omega) _ _ _⟩
 have PF := hid (PR1.out.put3 (.int .i64 0) (.int .i64 0) (.slice none 0 0))
 clear HC b
 go_wp2_with fail
 exact bodyPost_ret (mback1 Tryz.results6 PF.out _ (by rfl) (by rfl)) rfl FIN.out
theorem com_un {w : World} {r c kv : Int} {a : Option Addr} {l cap : Nat} (h : ¬ Snd r c l) : Calls Tryz.prog 6 #[.agg #[.int .i64 r, .int .i64 c, .slice a l cap], .int .i64 kv] w (GivesME w 1) := com_of (.inl rfl) fun w' _ => msz_no h
theorem com_arg {w : World} {v : Value} {r c : Nat} {kv : Int} {zs : List Int} {k : Nat} (h : Mx w v r c zs k) (hk : kv < 0 ∨ (r : Int) < kv ∨ (c : Int) < kv) : Calls Tryz.prog 6 #[v, .int .i64 kv] w (GivesME w 3) := by
 have M0 := h
 obtain ⟨aa, ca, rfl, hr, hc⟩ := h.form
 refine com_of (.inr rfl) fun w' b => ?_
 by_cases hn : kv < 0
 ·exact msz_neg (M0.now b) hn
 ·exact msz_big (M0.now b) (by omega)
theorem com_big {w : World} {va : Value} {m n k kk : Nat} {zs : List Int} (ha : Mx w va m n zs kk) (hkk : 64 * kk + 7 ≤ 4000000000) (hkm : k ≤ m) (hkn : k ≤ n) (hc : 64 < cho m k ∨ 64 < cho n k) :
  Calls Tryz.prog 6 #[va, .int .i64 (k : Int)] w (GivesME w 5) := by
 have M0 := ha
 obtain ⟨aa, ca, rfl, hm64, hn64⟩ := ha.form
 obtain ⟨la, hla⟩ : ∃ la, m * n = la := ⟨_, rfl⟩
 rw [hla] at M0 ⊢
 have ENN := hid hla
 obtain ⟨cm, hcm⟩ : ∃ cm, cho m k = cm := ⟨_, rfl⟩
 obtain ⟨cn, hcn⟩ : ∃ cn, cho n k = cn := ⟨_, rfl⟩
 have ECM := hid hcm
 have ECN := hid hcn
 have q1 : (64 : Int) < max (cm : Int) (cn : Int) := by omega
 have q1d : decide ((64 : Int) < max (cm : Int) (cn : Int)) = true := decide_eq_true q1
 obtain ⟨W0, hW⟩ : ∃ W0, (w.alloc (matO m n (.slice aa la ca))).alloc mbox = W0 := ⟨_, rfl⟩
 obtain ⟨b0, sz0⟩ := alloc2 w (matO m n (.slice aa la ca)) mbox
 rw [hW] at b0 sz0
 have PA : Hid (Cel W0 w.heap.size 24 (matc m n (.slice aa la ca))) := by
  unfold Hid; rw [← hW]
  exact (Cel.new w 24 (matc m n (.slice aa la ca))).step ((Below.refl _ _).alloc (Nat.le_refl _) _)
 have PR : Hid (Cel W0 (w.heap.size + 1) 24 [.int .i64 0, .int .i64 0, .slice none 0 0]) := by
  unfold Hid; rw [← hW]
  have := Cel.new (w.alloc (matO m n (.slice aa la ca))) 24 [.int .i64 0, .int .i64 0, .slice none 0 0]
  simpa using this
 have HC := hid (msz_yes (M0.now b0) (kv := (k : Int)) (by omega))
 have MA := hid (M0.now b0)
 have G := hid b0
 have EW := hid hW
 have SZ := hid sz0
 clear ha M0 b0 hW hla sz0 hcm hcn
 go_enter Tryz.func6, Tryz.ntmps6
 go_wp2_with fail
 rw [EW.out]
 clear EW
 refine HC.out.mono ?_
 rintro e w1 ⟨rfl, b⟩
 replace MA := hid (MA.out.now b)
 replace PA := hid (PA.out.step b)
 replace PR := hid (PR.out.step b)
 replace G := hid (below_step G.out b)
 have lz1 : Hid (w.heap.size + 1 < w1.heap.size) := by unfold Hid; have := SZ.out; have := b.size; omega
 have x0 := PA.out.at (i := 0) rfl
 have x1 := PA.out.at (i := 1) rfl
 clear HC b
 go_wp2_with fail
 have KB : Hid (∀ w', Below w1.heap.size w1 w' → w'.cell? ⟨w.heap.size, 0, none⟩ = some (.int .i64 (m : Int)) ∧ w'.cell? ⟨w.heap.size, 1, none⟩ = some (.int .i64 (n : Int))) := fun w' h => ⟨cnow h x0, cnow h x1⟩
 refine wp_region_tail (fun w' => w'.cell? ⟨w.heap.size, 0, none⟩ = some (.int .i64 (m : Int)) ∧ w'.cell? ⟨w.heap.size, 1, none⟩ = some (.int .i64 (n : Int))) 9 (by kernel_rfl) ?_
 obtain ⟨D21, hD⟩ : ∃ D21, w1.drew = D21 := ⟨_, rfl⟩
 have GB : Hid (Below w1.heap.size w1 D21) := by unfold Hid; rw [← hD]; exact (Below.refl _ _).drew
 rw [hD]
 clear hD
 refine wpAnyT_take (i := 0) (oi := { dst := some 14, op := Op.fieldAddr 24 (Operand.tmp 2) 0, type := 0, pos := "minors.go:47", after := #[], guard := none }) (v := (.pointer (some ⟨w.heap.size, 0, none⟩))) rfl (by kernel_rfl) (fun _ _ _ h => h) (Or.inl ⟨by rfl, ?_⟩) (KB.out _ GB.out) ?_
 ·intro w hSw
  (try dsimp only at hSw)
  go_simp
 simp only [Act.put, List.setIfInBounds_toArray, List.set_cons_zero, List.set_cons_succ]
 refine wpAnyT_take (i := 1) (oi := { dst := some 15, op := Op.load 3 (Operand.tmp 14), type := 3, pos := "minors.go:47", after := #[{ on := 0, ground := Ground.data }], guard := none }) (v := (.int .i64 (m : Int))) rfl (by kernel_rfl) (fun _ _ _ h => h) (Or.inl ⟨by rfl, ?_⟩) (KB.out _ GB.out) ?_
 ·intro w hSw
  (try dsimp only at hSw)
  go_simp
 simp only [Act.put, List.setIfInBounds_toArray, List.set_cons_zero, List.set_cons_succ]
 refine wpAnyT_take (i := 2) (oi := { dst := some 16, op := Op.move (Operand.tmp 1), type := 3, pos := "minors.go:47", after := #[], guard := none }) (v := (.int .i64 (k : Int))) rfl (by kernel_rfl) (fun _ _ _ h => h) (Or.inl ⟨by rfl, ?_⟩) (KB.out _ GB.out) ?_
 ·intro w hSw
  (try dsimp only at hSw)
  go_simp
 simp only [Act.put, List.setIfInBounds_toArray, List.set_cons_zero, List.set_cons_succ]
 refine wpAnyT_take (i := 4) (oi := { dst := some 18, op := Op.fieldAddr 24 (Operand.tmp 2) 1, type := 0, pos := "minors.go:47", after := #[], guard := none }) (v := (.pointer (some ⟨w.heap.size, 1, none⟩))) rfl (by kernel_rfl) (fun _ _ _ h => h) (Or.inl ⟨by rfl, ?_⟩) (KB.out _ GB.out) ?_
 ·intro w hSw
  (try dsimp only at hSw)
  go_simp
 simp only [Act.put, List.setIfInBounds_toArray, List.set_cons_zero, List.set_cons_succ]
 refine wpAnyT_take (i := 5) (oi := { dst := some 19, op := Op.load 3 (Operand.tmp 18), type := 3, pos := "minors.go:47", after := #[{ on := 4, ground := Ground.data }], guard := none }) (v := (.int .i64 (n : Int))) rfl (by kernel_rfl) (fun _ _ _ h => h) (Or.inl ⟨by rfl, ?_⟩) (KB.out _ GB.out) ?_
 ·intro w hSw
  (try dsimp only at hSw)
  go_simp
 simp only [Act.put, List.setIfInBounds_toArray, List.set_cons_zero, List.set_cons_succ]
 refine wpAnyT_take (i := 6) (oi := { dst := some 20, op := Op.move (Operand.tmp 1), type := 3, pos := "minors.go:47", after := #[], guard := none }) (v := (.int .i64 (k : Int))) rfl (by kernel_rfl) (fun _ _ _ h => h) (Or.inl ⟨by rfl, ?_⟩) (KB.out _ GB.out) ?_
 ·intro w hSw
  (try dsimp only at hSw)
  go_simp
 simp only [Act.put, List.setIfInBounds_toArray, List.set_cons_zero, List.set_cons_succ]
 refine wpAnyT_one (i := 3) (o := { dst := some 17, op := Op.call { callee := Callee.value (Operand.func 24), args := #[Operand.tmp 15, Operand.tmp 16], argTypes := #[3, 3] }, type := 54, pos := "minors.go:47", after := #[{ on := 1, ground := Ground.data }, { on := 2, ground := Ground.data }], guard := none }) (by kernel_rfl) rfl (fun K hK => ?_)
 go_simp
 go_at_call 24
 refine ((show Calls _ _ _ _ _ from choose_any (n := m) hm64 hkm)).mono ?_
 rintro e w22 ⟨rfl, b⟩
 have lz22 := (show Below _ _ _ from b).size
 replace GB := hid (below_step GB.out b)
 rw [ECM.out]
 clear b
 refine hK.out _ _ (fun _ => KB.out _ GB.out) ?_
 clear hK
 refine wpAnyT_one (i := 7) (o := { dst := some 21, op := Op.call { callee := Callee.value (Operand.func 24), args := #[Operand.tmp 19, Operand.tmp 20], argTypes := #[3, 3] }, type := 54, pos := "minors.go:47", after := #[{ on := 5, ground := Ground.data }, { on := 6, ground := Ground.data }, { on := 3, ground := Ground.chain }], guard := none }) (by kernel_rfl) rfl (fun K hK => ?_)
 go_simp
 go_at_call 24
 refine (choose_any (n := n) hn64 hkn).mono ?_
 rintro e w23 ⟨rfl, b⟩
 have lz23 := (show Below _ _ _ from b).size
 replace GB := hid (below_step GB.out b)
 rw [ECN.out]
 clear b
 refine hK.out _ _ (fun _ => KB.out _ GB.out) ?_
 clear hK
 refine wpAnyT_take (i := 8) (oi := { dst := some 22, op := Op.call { callee := Callee.builtin Builtin.max, args := #[Operand.tmp 17, Operand.tmp 21], argTypes := #[54, 54] }, type := 54, pos := "minors.go:47", after := #[{ on := 3, ground := Ground.data }, { on := 7, ground := Ground.data }], guard := none }) (v := (.int .u64 (max (cm : Int) (cn : Int)))) rfl (by kernel_rfl) (fun _ _ _ h => h) (Or.inl ⟨by rfl, ?_⟩) (KB.out _ GB.out) ?_
 ·intro w hSw
  (try dsimp only at hSw)
  go_simp
 simp only [Act.put, List.setIfInBounds_toArray, List.set_cons_zero, List.set_cons_succ]
 refine wpAnyT_one (i := 9) (o := { dst := some 23, op := Op.binOp BinOp.gtr 54 (Operand.tmp 22) (Operand.const (Value.int IntKind.u64 64)) 54, type := 4, pos := "minors.go:47", after := #[{ on := 8, ground := Ground.data }], guard := none }) (by kernel_rfl) rfl (fun K hK => ?_)
 go_simp
 refine hK.out _ _ (fun h => absurd h (by decide)) ?_
 clear hK
 try simp only [Act.put]
 refine wpAnyT_done (by kernel_rfl) ?_ _
 have PR1 := hid (PR.out.step GB.out)
 have G1 := hid (below_step G.out GB.out)
 have r0 := PR1.out.at (i := 0) rfl
 have r1 := PR1.out.at (i := 1) rfl
 have r2 := PR1.out.at (i := 2) rfl
 have f0 := PR1.out.fz 0
 have f1 := PR1.out.fz 1
 have f2 := PR1.out.fz 2
 have FIN : Hid (GivesME w 5 (.returned (.tuple #[mzero, .int .i64 5])) (put3 w23 (w.heap.size + 1) (.int .i64 0) (.int .i64 0) (.slice none 0 0))) := ⟨rfl, below_put3 G1.out (by omega) _ _ _⟩
 have PF := hid (PR1.out.put3 (.int .i64 0) (.int .i64 0) (.slice none 0 0))
 clear KB GB x0 x1
 go_wp2_with fail
 exact bodyPost_ret (mback1 Tryz.results6 PF.out _ (by rfl) (by rfl)) rfl FIN.out
theorem com_yes {w : World} {va : Value} {m n k kk : Nat} {zs : List Int} (ha : Mx w va m n zs kk) (hkk : 64 * kk + 7 ≤ 4000000000) (hkm : k ≤ m) (hkn : k ≤ n) (hc1 : cho m k ≤ 64) (hc2 : cho n k ≤ 64) :
  Calls Tryz.prog 6 #[va, .int .i64 (k : Int)] w (GivesMO w (cho m k) (cho n k) (zF (cho m k) (cho n k) (cpE (en n zs) m n k)) (64 * kk + 7)) := by
 have M0 := ha
 obtain ⟨aa, ca, rfl, hm64, hn64⟩ := ha.form
 obtain ⟨la, hla⟩ : ∃ la, m * n = la := ⟨_, rfl⟩
 rw [hla] at M0 ⊢
 have ENN := hid hla
 obtain ⟨cm, hcm⟩ : ∃ cm, cho m k = cm := ⟨_, rfl⟩
 obtain ⟨cn, hcn⟩ : ∃ cn, cho n k = cn := ⟨_, rfl⟩
 have ECM := hid hcm
 have ECN := hid hcn
 have q1 : ¬ (64 : Int) < max (cm : Int) (cn : Int) := by omega
 have q1d : decide ((64 : Int) < max (cm : Int) (cn : Int)) = false := decide_eq_false q1
 have hc1' : Hid (cm ≤ 64) := by unfold Hid; omega
 have hc2' : Hid (cn ≤ 64) := by unfold Hid; omega
 obtain ⟨W0, hW⟩ : ∃ W0, (w.alloc (matO m n (.slice aa la ca))).alloc mbox = W0 := ⟨_, rfl⟩
 obtain ⟨b0, sz0⟩ := alloc2 w (matO m n (.slice aa la ca)) mbox
 rw [hW] at b0 sz0
 have PA : Hid (Cel W0 w.heap.size 24 (matc m n (.slice aa la ca))) := by
  unfold Hid; rw [← hW]
  exact (Cel.new w 24 (matc m n (.slice aa la ca))).step ((Below.refl _ _).alloc (Nat.le_refl _) _)
 have PR : Hid (Cel W0 (w.heap.size + 1) 24 [.int .i64 0, .int .i64 0, .slice none 0 0]) := by
  unfold Hid; rw [← hW]
  have := Cel.new (w.alloc (matO m n (.slice aa la ca))) 24 [.int .i64 0, .int .i64 0, .slice none 0 0]
  simpa using this
 have HC := hid (msz_yes (M0.now b0) (kv := (k : Int)) (by omega))
 have MA := hid (M0.now b0)
 have G := hid b0
 have EW := hid hW
 have SZ := hid sz0
 clear ha M0 b0 hW hla sz0 hcm hcn
 go_enter Tryz.func6, Tryz.ntmps6
 go_wp2_with fail
 rw [EW.out]
 clear EW
 refine HC.out.mono ?_
 rintro e w1 ⟨rfl, b⟩
 replace MA := hid (MA.out.now b)
 replace PA := hid (PA.out.step b)
 replace PR := hid (PR.out.step b)
 replace G := hid (below_step G.out b)
 have lz1 : Hid (w.heap.size + 1 < w1.heap.size) := by unfold Hid; have := SZ.out; have := b.size; omega
 have x0 := PA.out.at (i := 0) rfl
 have x1 := PA.out.at (i := 1) rfl
 clear HC b
 go_wp2_with fail
 have KB : Hid (∀ w', Below w1.heap.size w1 w' → w'.cell? ⟨w.heap.size, 0, none⟩ = some (.int .i64 (m : Int)) ∧ w'.cell? ⟨w.heap.size, 1, none⟩ = some (.int .i64 (n : Int))) := fun w' h => ⟨cnow h x0, cnow h x1⟩
 refine wp_region_tail (fun w' => w'.cell? ⟨w.heap.size, 0, none⟩ = some (.int .i64 (m : Int)) ∧ w'.cell? ⟨w.heap.size, 1, none⟩ = some (.int .i64 (n : Int))) 9 (by kernel_rfl) ?_
 obtain ⟨D21, hD⟩ : ∃ D21, w1.drew = D21 := ⟨_, rfl⟩
 have GB : Hid (Below w1.heap.size w1 D21) := by unfold Hid; rw [← hD]; exact (Below.refl _ _).drew
 rw [hD]
 clear hD
 refine wpAnyT_take (i := 0) (oi := { dst := some 14, op := Op.fieldAddr 24 (Operand.tmp 2) 0, type := 0, pos := "minors.go:47", after := #[], guard := none }) (v := (.pointer (some ⟨w.heap.size, 0, none⟩))) rfl (by kernel_rfl) (fun _ _ _ h => h) (Or.inl ⟨by rfl, ?_⟩) (KB.out _ GB.out) ?_
 ·intro w hSw
  (try dsimp only at hSw)
  go_simp
 simp only [Act.put, List.setIfInBounds_toArray, List.set_cons_zero, List.set_cons_succ]
 refine wpAnyT_take (i := 1) (oi := { dst := some 15, op := Op.load 3 (Operand.tmp 14), type := 3, pos := "minors.go:47", after := #[{ on := 0, ground := Ground.data }], guard := none }) (v := (.int .i64 (m : Int))) rfl (by kernel_rfl) (fun _ _ _ h => h) (Or.inl ⟨by rfl, ?_⟩) (KB.out _ GB.out) ?_
 ·intro w hSw
  (try dsimp only at hSw)
  go_simp
 simp only [Act.put, List.setIfInBounds_toArray, List.set_cons_zero, List.set_cons_succ]
 refine wpAnyT_take (i := 2) (oi := { dst := some 16, op := Op.move (Operand.tmp 1), type := 3, pos := "minors.go:47", after := #[], guard := none }) (v := (.int .i64 (k : Int))) rfl (by kernel_rfl) (fun _ _ _ h => h) (Or.inl ⟨by rfl, ?_⟩) (KB.out _ GB.out) ?_
 ·intro w hSw
  (try dsimp only at hSw)
  go_simp
 simp only [Act.put, List.setIfInBounds_toArray, List.set_cons_zero, List.set_cons_succ]
 refine wpAnyT_take (i := 4) (oi := { dst := some 18, op := Op.fieldAddr 24 (Operand.tmp 2) 1, type := 0, pos := "minors.go:47", after := #[], guard := none }) (v := (.pointer (some ⟨w.heap.size, 1, none⟩))) rfl (by kernel_rfl) (fun _ _ _ h => h) (Or.inl ⟨by rfl, ?_⟩) (KB.out _ GB.out) ?_
 ·intro w hSw
  (try dsimp only at hSw)
  go_simp
 simp only [Act.put, List.setIfInBounds_toArray, List.set_cons_zero, List.set_cons_succ]
 refine wpAnyT_take (i := 5) (oi := { dst := some 19, op := Op.load 3 (Operand.tmp 18), type := 3, pos := "minors.go:47", after := #[{ on := 4, ground := Ground.data }], guard := none }) (v := (.int .i64 (n : Int))) rfl (by kernel_rfl) (fun _ _ _ h => h) (Or.inl ⟨by rfl, ?_⟩) (KB.out _ GB.out) ?_
 ·intro w hSw
  (try dsimp only at hSw)
  go_simp
 simp only [Act.put, List.setIfInBounds_toArray, List.set_cons_zero, List.set_cons_succ]
 refine wpAnyT_take (i := 6) (oi := { dst := some 20, op := Op.move (Operand.tmp 1), type := 3, pos := "minors.go:47", after := #[], guard := none }) (v := (.int .i64 (k : Int))) rfl (by kernel_rfl) (fun _ _ _ h => h) (Or.inl ⟨by rfl, ?_⟩) (KB.out _ GB.out) ?_
 ·intro w hSw
  (try dsimp only at hSw)
  go_simp
 simp only [Act.put, List.setIfInBounds_toArray, List.set_cons_zero, List.set_cons_succ]
 refine wpAnyT_one (i := 3) (o := { dst := some 17, op := Op.call { callee := Callee.value (Operand.func 24), args := #[Operand.tmp 15, Operand.tmp 16], argTypes := #[3, 3] }, type := 54, pos := "minors.go:47", after := #[{ on := 1, ground := Ground.data }, { on := 2, ground := Ground.data }], guard := none }) (by kernel_rfl) rfl (fun K hK => ?_)
 go_simp
 go_at_call 24
 refine ((show Calls _ _ _ _ _ from choose_any (n := m) hm64 hkm)).mono ?_
 rintro e w22 ⟨rfl, b⟩
 have lz22 := (show Below _ _ _ from b).size
 replace GB := hid (below_step GB.out b)
 rw [ECM.out]
 clear b
 refine hK.out _ _ (fun _ => KB.out _ GB.out) ?_
 clear hK
 refine wpAnyT_one (i := 7) (o := { dst := some 21, op := Op.call { callee := Callee.value (Operand.func 24), args := #[Operand.tmp 19, Operand.tmp 20], argTypes := #[3, 3] }, type := 54, pos := "minors.go:47", after := #[{ on := 5, ground := Ground.data }, { on := 6, ground := Ground.data }, { on := 3, ground := Ground.chain }], guard := none }) (by kernel_rfl) rfl (fun K hK => ?_)
 go_simp
 go_at_call 24
 refine (choose_any (n := n) hn64 hkn).mono ?_
 rintro e w23 ⟨rfl, b⟩
 have lz23 := (show Below _ _ _ from b).size
 replace GB := hid (below_step GB.out b)
 rw [ECN.out]
 clear b
 refine hK.out _ _ (fun _ => KB.out _ GB.out) ?_
 clear hK
 refine wpAnyT_take (i := 8) (oi := { dst := some 22, op := Op.call { callee := Callee.builtin Builtin.max, args := #[Operand.tmp 17, Operand.tmp 21], argTypes := #[54, 54] }, type := 54, pos := "minors.go:47", after := #[{ on := 3, ground := Ground.data }, { on := 7, ground := Ground.data }], guard := none }) (v := (.int .u64 (max (cm : Int) (cn : Int)))) rfl (by kernel_rfl) (fun _ _ _ h => h) (Or.inl ⟨by rfl, ?_⟩) (KB.out _ GB.out) ?_
 ·intro w hSw
  (try dsimp only at hSw)
  go_simp
 simp only [Act.put, List.setIfInBounds_toArray, List.set_cons_zero, List.set_cons_succ]
 refine wpAnyT_one (i := 9) (o := { dst := some 23, op := Op.binOp BinOp.gtr 54 (Operand.tmp 22) (Operand.const (Value.int IntKind.u64 64)) 54, type := 4, pos := "minors.go:47", after := #[{ on := 8, ground := Ground.data }], guard := none }) (by kernel_rfl) rfl (fun K hK => ?_)
 go_simp
 refine hK.out _ _ (fun h => absurd h (by decide)) ?_
 clear hK
 try simp only [Act.put]
 refine wpAnyT_done (by kernel_rfl) ?_ _
 replace PA := hid (PA.out.step GB.out)
 replace PR := hid (PR.out.step GB.out)
 replace G := hid (below_step G.out GB.out)
 have HA := hid (compound_any (MA.out.now GB.out) hkk hkm hkn hc1 hc2)
 have lz2 : Hid (w.heap.size + 1 < w23.heap.size) := by unfold Hid; have := lz1.out; have := GB.out.size; omega
 have x0 := PA.out.at (i := 0) rfl
 have x1 := PA.out.at (i := 1) rfl
 have x2 := PA.out.at (i := 2) rfl
 clear KB GB MA
 go_wp2_with fail
 refine HA.out.mono ?_
 rintro e w9 ⟨v9, ps, rfl, hown, hzms, b⟩
 rw [cpL_zF] at hzms
 rw [ECM.out, ECN.out] at hzms
 rw [ECM.out, ECN.out]
 have hlp : ps.length = cm * cn := by rw [hzms.1, zF_len]
 have hlq : cm * cn ≤ 64 * 64 := Nat.mul_le_mul hc1'.out hc2'.out
 have MC : Hid (Mc w9 (matv cm cn v9) cm cn (zF cm cn (cpE (en n zs) m n k)) (64 * kk + 7)) := ⟨_, ps, rfl, (hown.prsT (by omega)).1, hzms.zcs, zF_len _ _ _, hc1'.out, hc2'.out⟩
 obtain ⟨a9, q9, hf, -, -⟩ := MC.out.mx.form
 obtain ⟨l9, hl9⟩ : ∃ l9, cm * cn = l9 := ⟨_, rfl⟩
 rw [hl9] at hf
 obtain rfl : v9 = .slice a9 l9 q9 := by simpa [matv] using hf
 replace PR := hid (PR.out.step b)
 have r0 := PR.out.at (i := 0) rfl
 have r1 := PR.out.at (i := 1) rfl
 have r2 := PR.out.at (i := 2) rfl
 have f0 := PR.out.fz 0
 have f1 := PR.out.fz 1
 have f2 := PR.out.fz 2
 have FIN : Hid (GivesMO w (cho m k) (cho n k) (zF (cho m k) (cho n k) (cpE (en n zs) m n k)) (64 * kk + 7) (.returned (.tuple #[.agg #[.int .i64 (cm : Int), .int .i64 (cn : Int), .slice a9 l9 q9], .int .i64 0])) (put3 w9 (w.heap.size + 1) (.int .i64 (cm : Int)) (.int .i64 (cn : Int)) (.slice a9 l9 q9))) := by
  rw [ECM.out, ECN.out]
  exact ⟨_, rfl, MC.out.wk PR.out _ _ _, below_put3 (below_step G.out b) (by omega) _ _ _⟩
 have PF := hid (PR.out.put3 (.int .i64 (cm : Int)) (.int .i64 (cn : Int)) (.slice a9 l9 q9))
 clear HA b hown hzms hf hl9 hlp hlq MC x0 x1 x2 G PR
 go_wp2_with fail
 exact bodyPost_ret (mback1 Tryz.results6 PF.out _ (by rfl) (by rfl)) rfl FIN.out
end Go.Proofs.YtplldfnldaehiaaGreat
