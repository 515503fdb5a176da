/-
  Shifts9: the walk of MatShifts.
-/
import Derived.Test.YtojhmkkjjalonaaQShiftP9
namespace Go.Proofs.Ytojhmkkjjalonaa
open Go.RowKit
set_option linter.unusedVariables false

def ShH (w : World) (g1 g2 p1 p2 n s k : Nat) (gk : Nat) (s9 : Value) (wx : World) : Prop :=
  ∃ i : Nat, s9 = .int .i64 (i : Int) ∧ i ≤ n ∧ gk = n - i ∧ Filled wx g1 (n * n) (putsL n (fun i => (i + s) % n) (-1) i) ∧ Filled wx g2 (n * n) (putsL n (fun i => (i + s * k) % n) (sg k) i) ∧
    Cel wx p1 24 (matc n n (.slice (some ⟨g1, 0, none⟩) (n * n) (n * n))) ∧ Cel wx p2 24 (matc n n (.slice (some ⟨g2, 0, none⟩) (n * n) (n * n))) ∧ Below w.heap.size w wx
set_option maxHeartbeats 3200000 in
set_option maxRecDepth 100000 in
theorem matShifts_in {w : World} {n s k : Nat} (hn0 : 0 < n) (hn : n ≤ 64) (hs : s < n) (hk : k ≤ 256) :
    Calls Try.prog 5 #[.int .i64 (n : Int), .int .i64 (s : Int), .int .i64 (k : Int)] w fun e w' => e = .returned (.bool true) ∧ Below w.heap.size w w' := by
  have c1 : ¬ ((n : Int) < 1) := by omega
  have c2 : ¬ ((64 : Int) < (n : Int)) := by omega
  have c3 : ¬ ((s : Int) < 0) := by omega
  have c4 : ¬ ((n : Int) ≤ (s : Int)) := by omega
  have c5 : ¬ ((k : Int) < 0) := by omega
  have c6 : ¬ ((256 : Int) < (k : Int)) := by omega
  have hm0 := wrapM9 (i := n) (c := n) hn hn
  have hnn : n * n ≤ 64 * 64 := Nat.mul_le_mul hn hn
  obtain ⟨N, hN⟩ : ∃ N, n * n = N := ⟨_, rfl⟩
  have HNN := hid hN
  rw [hN] at hm0 hnn
  clear hN
  go_enter Try.func5, Try.ntmps5
  go_wp2_with fail
  refine (wakes9 w).mono ?_
  rintro e w1 ⟨rfl, b⟩
  have G1 := hid b
  have LS : Hid (w.heap.size ≤ w1.heap.size) := (show Below _ _ _ from b).size
  clear b
  go_wp2_with (at_make; refine wpList_make_pairs9 _ rfl _ _ rfl _ _ N N rfl rfl rfl rfl (Nat.le_refl _) (by omega) ?_)
  intro w2 hrow hb2 hsz2
  have A2 : Hid (Filled w2 w1.heap.size N (List.replicate N 0)) := ⟨_, hrow, by simp, zcs_zero _ _ _⟩
  have G2 := hid (below_step G1.out hb2)
  have L2 : Hid (w1.heap.size < w2.heap.size) := hrow.1.blk
  clear hrow hb2 hsz2 G1
  obtain ⟨V2, hV⟩ : ∃ V2, w2.alloc (matO n n (.slice (some ⟨w1.heap.size, 0, none⟩) N N)) = V2 := ⟨_, rfl⟩
  obtain ⟨b, sz2⟩ := alo1 w2 (matO n n (.slice (some ⟨w1.heap.size, 0, none⟩) N N))
  rw [hV] at b sz2
  have P7 : Hid (Cel V2 w2.heap.size 24 (matc n n (.slice (some ⟨w1.heap.size, 0, none⟩) N N))) := by unfold Hid; rw [← hV]; exact Cel.new w2 _ _
  have A3 := hid (A2.out.step b)
  have G3 := hid (below_step G2.out b)
  have L3 : Hid (V2.heap.size = w2.heap.size + 1) := sz2
  have EV := hid hV
  clear b sz2 hV A2 G2
  go_wp2_with (at_make; rw [EV.out]; refine wpList_make_pairs9 _ rfl _ _ rfl _ _ N N rfl rfl rfl rfl (Nat.le_refl _) (by omega) ?_)
  clear EV
  intro w4 hrow hb4 hsz4
  have B4 : Hid (Filled w4 V2.heap.size N (List.replicate N 0)) := ⟨_, hrow, by simp, zcs_zero _ _ _⟩
  have A4 := hid (A3.out.step hb4)
  have P74 := hid (P7.out.step hb4)
  have G4 := hid (below_step G3.out hb4)
  have L4 : Hid (V2.heap.size < w4.heap.size) := hrow.1.blk
  clear hrow hb4 hsz4 A3 P7 G3
  obtain ⟨V4, hV⟩ : ∃ V4, w4.alloc (matO n n (.slice (some ⟨V2.heap.size, 0, none⟩) N N)) = V4 := ⟨_, rfl⟩
  obtain ⟨b, sz4⟩ := alo1 w4 (matO n n (.slice (some ⟨V2.heap.size, 0, none⟩) N N))
  rw [hV] at b sz4
  have P8 : Hid (Cel V4 w4.heap.size 24 (matc n n (.slice (some ⟨V2.heap.size, 0, none⟩) N N))) := by unfold Hid; rw [← hV]; exact Cel.new w4 _ _
  have H0 : Hid (ShH w w1.heap.size V2.heap.size w2.heap.size w4.heap.size n s k n (.int .i64 0) V4) := by
    refine ⟨0, rfl, Nat.zero_le _, by omega, ?_, ?_, ?_, ?_, below_step G4.out b⟩
    · rw [putsL, HNN.out]; exact A4.out.step b
    · rw [putsL, HNN.out]; exact B4.out.step b
    · rw [HNN.out]; exact P74.out.step b
    · rw [HNN.out]; exact P8.out
  have EV := hid hV
  have LW := LS
  clear b sz4 hV A4 B4 P74 P8 G4
  go_wp2_with fail
  rw [EV.out]
  clear EV
  have LL : Hid (w.heap.size ≤ w1.heap.size ∧ w1.heap.size < w2.heap.size ∧ w2.heap.size < V2.heap.size ∧ V2.heap.size < w4.heap.size) := by
    unfold Hid
    have h1 := LW.out
    have h2 := L2.out
    have h3 := L3.out
    have h4 := L4.out
    omega
  generalize w4.heap.size = p2 at *
  generalize V2.heap.size = g2 at *
  generalize w2.heap.size = p1 at *
  generalize w1.heap.size = g1 at *
  clear L2 L3 L4 LW LS
  go_loopg [9] n (fun gk s9 wx => ShH w g1 g2 p1 p2 n s k gk s9 wx)
  case atStart => exact H0.out
  case round =>
    clear H0
    obtain ⟨i, rfl, hin, hg, hA, hB, hpa, hpb, hG⟩ := hrel
    rw [HNN.out] at hA hB hpa hpb
    have A := hid hA
    have B := hid hB
    have PA := hid hpa
    have PB := hid hpb
    have G := hid hG
    have HG := hid hg
    clear hA hB hpa hpb hG hg
    by_cases hlt : i < n
    · have hlt' : (i : Int) < (n : Int) := by omega
      have hw := wrapI9 (i := i) (by omega)
      have hmi := wrapM9 (i := i) (c := n) (by omega) hn
      have hsk : s * k ≤ 64 * 256 := Nat.mul_le_mul (by omega) hk
      have hmk : IntKind.i64.wrap ((s : Int) * (k : Int)) = ((s * k : Nat) : Int) := by
        rw [show (s : Int) * (k : Int) = ((s * k : Nat) : Int) by simp]
        rw [wrap_is] <;> omega
      have UL1 : Hid (putsL n (fun i => (i + s) % n) (-1) (i + 1) = (putsL n (fun i => (i + s) % n) (-1) i).set (i * n + (i + s) % n) (-1)) := rfl
      have UL2 : Hid (putsL n (fun i => (i + s * k) % n) (sg k) (i + 1) = (putsL n (fun i => (i + s * k) % n) (sg k) i).set (i * n + (i + s * k) % n) (sg k)) := rfl
      have hr1 : (i + s) % n < n := Nat.mod_lt _ hn0
      have hr2 : (i + s * k) % n < n := Nat.mod_lt _ hn0
      have hx1 : i * n + (i + s) % n < N := by rw [← HNN.out]; exact place_lt hlt hr1
      have hx2 : i * n + (i + s * k) % n < N := by rw [← HNN.out]; exact place_lt hlt hr2
      have hrm1 : ((i : Int) + (s : Int)).tmod (n : Int) = (((i + s) % n : Nat) : Int) := by rw [Int.tmod_eq_emod_of_nonneg (by omega)]; simp
      have hrm2 : ((i : Int) + ((s * k : Nat) : Int)).tmod (n : Int) = (((i + s * k) % n : Nat) : Int) := by rw [Int.tmod_eq_emod_of_nonneg (by omega)]; simp
      have hn3 : ¬ n = 0 := by omega
      have hin0 : i * n ≤ 64 * 64 := Nat.mul_le_mul (by omega) hn
      have ha1 : IntKind.i64.wrap ((i : Int) + (s : Int)) = (i : Int) + (s : Int) := by rw [wrap_is] <;> omega
      generalize (putsL n (fun i => (i + s) % n) (-1) i) = ZA at *
      generalize (putsL n (fun i => (i + s * k) % n) (sg k) i) = ZB at *
      generalize hESK : s * k = sk at *
      have ESK := hid hESK
      clear hESK
      have ha2 : IntKind.i64.wrap ((i : Int) + (sk : Int)) = (i : Int) + (sk : Int) := by rw [wrap_is] <;> omega
      generalize (i + s) % n = f1 at *
      generalize (i + sk) % n = f2 at *
      generalize i * n = lo at *
      have hb1 : IntKind.i64.wrap ((lo : Int) + (f1 : Int)) = ((lo + f1 : Nat) : Int) := by rw [wrap_is] <;> omega
      have hb2 : IntKind.i64.wrap ((lo : Int) + (f2 : Int)) = ((lo + f2 : Nat) : Int) := by rw [wrap_is] <;> omega
      generalize lo + f1 = ix1 at *
      generalize lo + f2 = ix2 at *
      have u1 := hmi
      have u2 := hmk
      have u3 := ha1
      have u4 := ha2
      have u5 := hb1
      have u6 := hb2
      rw [IntKind.wrap_i64] at u1 u2 u3 u4 u5 u6
      have hi1 : (ix1 : Int) < (N : Int) := by omega
      have hi2 : (ix2 : Int) < (N : Int) := by omega
      have hn1 : ¬ ((n : Int) = 0) := by omega
      have hn2 : ((n : Int) == 0) = false := by rw [beq_eq_false_iff_ne]; omega
      obtain ⟨bk, hbk, hsg⟩ : ∃ bk : Bool, (((k : Int) % 2) == 1) = bk ∧ sg k = if bk = true then -1 else 1 := by
        refine ⟨_, rfl, ?_⟩
        unfold sg
        rcases Nat.mod_two_eq_zero_or_one k with h | h
        · have e : (k : Int) % 2 = 0 := by omega
          rw [e, if_neg (by omega)]; rfl
        · have e : (k : Int) % 2 = 1 := by omega
          rw [e, if_pos h]; rfl
      rw [hsg] at UL2
      have SG := hid hsg
      clear hsg
      have hkt : (k : Int).tmod 2 = (k : Int) % 2 := Int.tmod_eq_emod_of_nonneg (by omega)
      have k2 := PA.out.at (i := 2) rfl
      go_wp2_with fail
      have KB : Hid (∀ w', Below wr.heap.size wr w' → w'.cell? ⟨p1, 2, none⟩ = some (.slice (some ⟨g1, 0, none⟩) N N)) := fun w' h => cnow h k2
      refine wp_region_tail (fun w' => w'.cell? ⟨p1, 2, none⟩ = some (.slice (some ⟨g1, 0, none⟩) N N)) 14 (by kernel_rfl) ?_
      obtain ⟨D21, hD⟩ : ∃ D21, wr.drew = D21 := ⟨_, rfl⟩
      have GB : Hid (Below wr.heap.size wr D21) := by unfold Hid; rw [← hD]; exact (Below.refl _ _).drew
      rw [hD]
      clear hD
      refine wpAnyT_take (i := 0) (oi := { dst := some 56, op := Op.fieldAddr 24 (Operand.tmp 7) 2, type := 0, pos := "plain.go:148", after := #[], guard := none }) (v := (.pointer (some ⟨p1, 2, none⟩))) rfl (by kernel_rfl) (fun _ _ _ h => h) (Or.inl ⟨by rfl, ?_⟩) (KB.out _ GB.out) ?_
      · intro w hSw
        (try dsimp only at hSw)
        go_simp
      simp only [Act.put, List.setIfInBounds_toArray, List.set_cons_zero, List.set_cons_succ]
      refine wpAnyT_take (i := 1) (oi := { dst := some 57, op := Op.load 22 (Operand.tmp 56), type := 22, pos := "plain.go:148", after := #[{ on := 0, ground := Ground.data }], guard := none }) (v := (.slice (some ⟨g1, 0, none⟩) N N)) rfl (by kernel_rfl) (fun _ _ _ h => h) (Or.inl ⟨by rfl, ?_⟩) (KB.out _ GB.out) ?_
      · intro w hSw
        (try dsimp only at hSw)
        go_simp
      simp only [Act.put, List.setIfInBounds_toArray, List.set_cons_zero, List.set_cons_succ]
      refine wpAnyT_take (i := 2) (oi := { dst := some 58, op := Op.move (Operand.tmp 9), type := 3, pos := "plain.go:148", after := #[], guard := none }) (v := (.int .i64 (i : Int))) rfl (by kernel_rfl) (fun _ _ _ h => h) (Or.inl ⟨by rfl, ?_⟩) (KB.out _ GB.out) ?_
      · intro w hSw
        (try dsimp only at hSw)
        go_simp
      simp only [Act.put, List.setIfInBounds_toArray, List.set_cons_zero, List.set_cons_succ]
      refine wpAnyT_take (i := 3) (oi := { dst := some 59, op := Op.move (Operand.tmp 0), type := 3, pos := "plain.go:148", after := #[], guard := none }) (v := (.int .i64 (n : Int))) rfl (by kernel_rfl) (fun _ _ _ h => h) (Or.inl ⟨by rfl, ?_⟩) (KB.out _ GB.out) ?_
      · intro w hSw
        (try dsimp only at hSw)
        go_simp
      simp only [Act.put, List.setIfInBounds_toArray, List.set_cons_zero, List.set_cons_succ]
      refine wpAnyT_take (i := 4) (oi := { dst := some 60, op := Op.binOp BinOp.mul 3 (Operand.tmp 58) (Operand.tmp 59) 3, type := 3, pos := "plain.go:148", after := #[{ on := 2, ground := Ground.data }, { on := 3, ground := Ground.data }], guard := none }) (v := (.int .i64 (lo : Int))) rfl (by kernel_rfl) (fun _ _ _ h => h) (Or.inl ⟨by rfl, ?_⟩) (KB.out _ GB.out) ?_
      · intro w hSw
        (try dsimp only at hSw)
        go_simp
      simp only [Act.put, List.setIfInBounds_toArray, List.set_cons_zero, List.set_cons_succ]
      refine wpAnyT_take (i := 5) (oi := { dst := some 61, op := Op.move (Operand.tmp 9), type := 3, pos := "plain.go:148", after := #[], guard := none }) (v := (.int .i64 (i : Int))) rfl (by kernel_rfl) (fun _ _ _ h => h) (Or.inl ⟨by rfl, ?_⟩) (KB.out _ GB.out) ?_
      · intro w hSw
        (try dsimp only at hSw)
        go_simp
      simp only [Act.put, List.setIfInBounds_toArray, List.set_cons_zero, List.set_cons_succ]
      refine wpAnyT_take (i := 6) (oi := { dst := some 62, op := Op.move (Operand.tmp 1), type := 3, pos := "plain.go:148", after := #[], guard := none }) (v := (.int .i64 (s : Int))) rfl (by kernel_rfl) (fun _ _ _ h => h) (Or.inl ⟨by rfl, ?_⟩) (KB.out _ GB.out) ?_
      · intro w hSw
        (try dsimp only at hSw)
        go_simp
      simp only [Act.put, List.setIfInBounds_toArray, List.set_cons_zero, List.set_cons_succ]
      refine wpAnyT_take (i := 7) (oi := { dst := some 63, op := Op.binOp BinOp.add 3 (Operand.tmp 61) (Operand.tmp 62) 3, type := 3, pos := "plain.go:148", after := #[{ on := 5, ground := Ground.data }, { on := 6, ground := Ground.data }], guard := none }) (v := (.int .i64 ((i : Int) + (s : Int)))) rfl (by kernel_rfl) (fun _ _ _ h => h) (Or.inl ⟨by rfl, ?_⟩) (KB.out _ GB.out) ?_
      · intro w hSw
        (try dsimp only at hSw)
        go_simp
      simp only [Act.put, List.setIfInBounds_toArray, List.set_cons_zero, List.set_cons_succ]
      refine wpAnyT_take (i := 8) (oi := { dst := some 64, op := Op.move (Operand.tmp 0), type := 3, pos := "plain.go:148", after := #[], guard := none }) (v := (.int .i64 (n : Int))) rfl (by kernel_rfl) (fun _ _ _ h => h) (Or.inl ⟨by rfl, ?_⟩) (KB.out _ GB.out) ?_
      · intro w hSw
        (try dsimp only at hSw)
        go_simp
      simp only [Act.put, List.setIfInBounds_toArray, List.set_cons_zero, List.set_cons_succ]
      refine wpAnyT_take (i := 9) (oi := { dst := some 65, op := Op.binOp BinOp.rem 3 (Operand.tmp 63) (Operand.tmp 64) 3, type := 3, pos := "plain.go:148", after := #[{ on := 7, ground := Ground.data }, { on := 8, ground := Ground.data }], guard := none }) (v := (.int .i64 (f1 : Int))) rfl (by kernel_rfl) (fun _ _ _ h => h) (Or.inl ⟨by rfl, ?_⟩) (KB.out _ GB.out) ?_
      · intro w hSw
        (try dsimp only at hSw)
        go_simp
      simp only [Act.put, List.setIfInBounds_toArray, List.set_cons_zero, List.set_cons_succ]
      refine wpAnyT_take (i := 10) (oi := { dst := some 66, op := Op.binOp BinOp.add 3 (Operand.tmp 60) (Operand.tmp 65) 3, type := 3, pos := "plain.go:148", after := #[{ on := 4, ground := Ground.data }, { on := 9, ground := Ground.data }], guard := none }) (v := (.int .i64 (ix1 : Int))) rfl (by kernel_rfl) (fun _ _ _ h => h) (Or.inl ⟨by rfl, ?_⟩) (KB.out _ GB.out) ?_
      · intro w hSw
        (try dsimp only at hSw)
        go_simp
      simp only [Act.put, List.setIfInBounds_toArray, List.set_cons_zero, List.set_cons_succ]
      refine wpAnyT_one (i := 11) (o := { dst := some 67, op := Op.buildSlice 35 1 #[(0, Operand.const (Value.int IntKind.u64 1))], type := 35, pos := "plain.go:148", after := #[], guard := none }) (by kernel_rfl) rfl (fun K hK => ?_)
      go_simp
      obtain ⟨V22, hW⟩ : ∃ V22, D21.alloc (.cells #[.int .u64 1] 41) = V22 := ⟨_, rfl⟩
      obtain ⟨b, sz9⟩ := alo1 D21 (.cells #[.int .u64 1] 41)
      rw [hW] at b sz9
      replace GB := hid (below_step GB.out b)
      have Za : Hid (Zc V22 (.agg #[.bool true, .slice (some ⟨D21.heap.size, 0, none⟩) 1 1]) (if true = true then -1 else 1) 1) := by unfold Hid; rw [← hW]; exact lit9 D21
      rw [hW]
      clear hW b sz9
      refine hK.out _ _ (fun _ => KB.out _ GB.out) ?_
      clear hK
      try simp only [Act.put]
      refine wpAnyT_take (i := 12) (oi := { dst := some 68, op := Op.build 37 #[(0, Operand.const (Value.bool true)), (1, Operand.tmp 67)], type := 37, pos := "plain.go:148", after := #[{ on := 11, ground := Ground.data }], guard := none }) (v := (.agg #[.bool true, (.slice (some ⟨D21.heap.size, 0, none⟩) 1 1)])) rfl (by kernel_rfl) (fun _ _ _ h => h) (Or.inl ⟨by rfl, ?_⟩) (KB.out _ GB.out) ?_
      · intro w hSw
        (try dsimp only at hSw)
        go_simp
      simp only [Act.put, List.setIfInBounds_toArray, List.set_cons_zero, List.set_cons_succ]
      refine wpAnyT_take (i := 13) (oi := { dst := some 69, op := Op.indexAddr 22 (Operand.tmp 57) (Operand.tmp 66), type := 0, pos := "plain.go:148", after := #[{ on := 1, ground := Ground.data }, { on := 10, ground := Ground.data }, { on := 0, ground := Ground.phase }, { on := 1, ground := Ground.phase }, { on := 2, ground := Ground.phase }, { on := 3, ground := Ground.phase }, { on := 4, ground := Ground.phase }, { on := 5, ground := Ground.phase }, { on := 6, ground := Ground.phase }, { on := 7, ground := Ground.phase }, { on := 8, ground := Ground.phase }, { on := 9, ground := Ground.phase }, { on := 10, ground := Ground.phase }, { on := 11, ground := Ground.phase }, { on := 12, ground := Ground.phase }], guard := none }) (v := (.pointer (some ⟨g1, ix1 * 2, none⟩))) rfl (by kernel_rfl) (fun _ _ _ h => h) (Or.inl ⟨by rfl, ?_⟩) (KB.out _ GB.out) ?_
      · intro w hSw
        (try dsimp only at hSw)
        go_simp
      simp only [Act.put, List.setIfInBounds_toArray, List.set_cons_zero, List.set_cons_succ]
      refine wpAnyT_one (i := 14) (o := { dst := none, op := Op.store 37 (Operand.tmp 69) (Operand.tmp 68), type := 0, pos := "plain.go:148", after := #[{ on := 13, ground := Ground.data }, { on := 12, ground := Ground.data }, { on := 0, ground := Ground.phase }, { on := 1, ground := Ground.phase }, { on := 2, ground := Ground.phase }, { on := 3, ground := Ground.phase }, { on := 4, ground := Ground.phase }, { on := 5, ground := Ground.phase }, { on := 6, ground := Ground.phase }, { on := 7, ground := Ground.phase }, { on := 8, ground := Ground.phase }, { on := 9, ground := Ground.phase }, { on := 10, ground := Ground.phase }, { on := 11, ground := Ground.phase }, { on := 12, ground := Ground.phase }], guard := none }) (by kernel_rfl) rfl (fun K hK => ?_)
      have A1 := hid (A.out.step GB.out)
      have B1 := hid (B.out.step GB.out)
      have PA1 := hid (PA.out.step GB.out)
      have PB1 := hid (PB.out.step GB.out)
      have G1 := hid (below_step G.out GB.out)
      obtain ⟨m0, am, lm, cm, e0, e1, e2, e3⟩ := A1.out.cells hx1
      go_simp
      clear e0 e1 e2 e3
      obtain ⟨V23, hW⟩ : ∃ V23, ((V22.setCell ⟨g1, ix1 * 2, none⟩ (.bool true)).setCell ⟨g1, ix1 * 2 + 1, none⟩ (.slice (some ⟨D21.heap.size, 0, none⟩) 1 1)) = V23 := ⟨_, rfl⟩
      have AP := A1.out.put hx1 Za.out
      have ll := LL.out
      have hk1 := AP.2
      have A2 := hid AP.1
      have B2 := hid (B1.out.off (by omega) hk1)
      have PA2 := hid ((PA1.out.ne (b' := g1) (i := ix1 * 2) (u := .bool true) (by omega)).ne (b' := g1) (i := ix1 * 2 + 1) (u := (.slice (some ⟨D21.heap.size, 0, none⟩) 1 1)) (by omega))
      have PB2 := hid ((PB1.out.ne (b' := g1) (i := ix1 * 2) (u := .bool true) (by omega)).ne (b' := g1) (i := ix1 * 2 + 1) (u := (.slice (some ⟨D21.heap.size, 0, none⟩) 1 1)) (by omega))
      have G2 := hid (bset (bset G1.out (g := g1) (j := ix1 * 2) (u := .bool true) (by omega)) (g := g1) (j := ix1 * 2 + 1) (u := (.slice (some ⟨D21.heap.size, 0, none⟩) 1 1)) (by omega))
      rw [hW] at A2 B2 PA2 PB2 G2
      clear AP hk1 ll
      rw [hW]
      clear hW
      refine hK.out _ _ (fun h => absurd h (by decide)) ?_
      clear hK
      try simp only [Act.put]
      refine wpAnyT_done (by kernel_rfl) ?_ _
      clear GB KB A B PA PB G A1 B1 PA1 PB1 G1 Za
      have k3 := PB2.out.at (i := 2) rfl
      go_wp2_with fail
      have KB : Hid (∀ w', Below V23.heap.size V23 w' → w'.cell? ⟨p2, 2, none⟩ = some (.slice (some ⟨g2, 0, none⟩) N N)) := fun w' h => cnow h k3
      refine wp_region_tail (fun w' => w'.cell? ⟨p2, 2, none⟩ = some (.slice (some ⟨g2, 0, none⟩) N N)) 19 (by kernel_rfl) ?_
      obtain ⟨D44, hD⟩ : ∃ D44, V23.drew = D44 := ⟨_, rfl⟩
      have GB : Hid (Below V23.heap.size V23 D44) := by unfold Hid; rw [← hD]; exact (Below.refl _ _).drew
      rw [hD]
      clear hD
      refine wpAnyT_take (i := 0) (oi := { dst := some 70, op := Op.fieldAddr 24 (Operand.tmp 8) 2, type := 0, pos := "plain.go:149", after := #[], guard := none }) (v := (.pointer (some ⟨p2, 2, none⟩))) rfl (by kernel_rfl) (fun _ _ _ h => h) (Or.inl ⟨by rfl, ?_⟩) (KB.out _ GB.out) ?_
      · intro w hSw
        (try dsimp only at hSw)
        go_simp
      simp only [Act.put, List.setIfInBounds_toArray, List.set_cons_zero, List.set_cons_succ]
      refine wpAnyT_take (i := 1) (oi := { dst := some 71, op := Op.load 22 (Operand.tmp 70), type := 22, pos := "plain.go:149", after := #[{ on := 0, ground := Ground.data }], guard := none }) (v := (.slice (some ⟨g2, 0, none⟩) N N)) rfl (by kernel_rfl) (fun _ _ _ h => h) (Or.inl ⟨by rfl, ?_⟩) (KB.out _ GB.out) ?_
      · intro w hSw
        (try dsimp only at hSw)
        go_simp
      simp only [Act.put, List.setIfInBounds_toArray, List.set_cons_zero, List.set_cons_succ]
      refine wpAnyT_take (i := 2) (oi := { dst := some 72, op := Op.move (Operand.tmp 9), type := 3, pos := "plain.go:149", after := #[], guard := none }) (v := (.int .i64 (i : Int))) rfl (by kernel_rfl) (fun _ _ _ h => h) (Or.inl ⟨by rfl, ?_⟩) (KB.out _ GB.out) ?_
      · intro w hSw
        (try dsimp only at hSw)
        go_simp
      simp only [Act.put, List.setIfInBounds_toArray, List.set_cons_zero, List.set_cons_succ]
      refine wpAnyT_take (i := 3) (oi := { dst := some 73, op := Op.move (Operand.tmp 0), type := 3, pos := "plain.go:149", after := #[], guard := none }) (v := (.int .i64 (n : Int))) rfl (by kernel_rfl) (fun _ _ _ h => h) (Or.inl ⟨by rfl, ?_⟩) (KB.out _ GB.out) ?_
      · intro w hSw
        (try dsimp only at hSw)
        go_simp
      simp only [Act.put, List.setIfInBounds_toArray, List.set_cons_zero, List.set_cons_succ]
      refine wpAnyT_take (i := 4) (oi := { dst := some 74, op := Op.binOp BinOp.mul 3 (Operand.tmp 72) (Operand.tmp 73) 3, type := 3, pos := "plain.go:149", after := #[{ on := 2, ground := Ground.data }, { on := 3, ground := Ground.data }], guard := none }) (v := (.int .i64 (lo : Int))) rfl (by kernel_rfl) (fun _ _ _ h => h) (Or.inl ⟨by rfl, ?_⟩) (KB.out _ GB.out) ?_
      · intro w hSw
        (try dsimp only at hSw)
        go_simp
      simp only [Act.put, List.setIfInBounds_toArray, List.set_cons_zero, List.set_cons_succ]
      refine wpAnyT_take (i := 5) (oi := { dst := some 75, op := Op.move (Operand.tmp 9), type := 3, pos := "plain.go:149", after := #[], guard := none }) (v := (.int .i64 (i : Int))) rfl (by kernel_rfl) (fun _ _ _ h => h) (Or.inl ⟨by rfl, ?_⟩) (KB.out _ GB.out) ?_
      · intro w hSw
        (try dsimp only at hSw)
        go_simp
      simp only [Act.put, List.setIfInBounds_toArray, List.set_cons_zero, List.set_cons_succ]
      refine wpAnyT_take (i := 6) (oi := { dst := some 76, op := Op.move (Operand.tmp 1), type := 3, pos := "plain.go:149", after := #[], guard := none }) (v := (.int .i64 (s : Int))) rfl (by kernel_rfl) (fun _ _ _ h => h) (Or.inl ⟨by rfl, ?_⟩) (KB.out _ GB.out) ?_
      · intro w hSw
        (try dsimp only at hSw)
        go_simp
      simp only [Act.put, List.setIfInBounds_toArray, List.set_cons_zero, List.set_cons_succ]
      refine wpAnyT_take (i := 7) (oi := { dst := some 77, op := Op.move (Operand.tmp 2), type := 3, pos := "plain.go:149", after := #[], guard := none }) (v := (.int .i64 (k : Int))) rfl (by kernel_rfl) (fun _ _ _ h => h) (Or.inl ⟨by rfl, ?_⟩) (KB.out _ GB.out) ?_
      · intro w hSw
        (try dsimp only at hSw)
        go_simp
      simp only [Act.put, List.setIfInBounds_toArray, List.set_cons_zero, List.set_cons_succ]
      refine wpAnyT_take (i := 8) (oi := { dst := some 78, op := Op.binOp BinOp.mul 3 (Operand.tmp 76) (Operand.tmp 77) 3, type := 3, pos := "plain.go:149", after := #[{ on := 6, ground := Ground.data }, { on := 7, ground := Ground.data }], guard := none }) (v := (.int .i64 (sk : Int))) rfl (by kernel_rfl) (fun _ _ _ h => h) (Or.inl ⟨by rfl, ?_⟩) (KB.out _ GB.out) ?_
      · intro w hSw
        (try dsimp only at hSw)
        go_simp
      simp only [Act.put, List.setIfInBounds_toArray, List.set_cons_zero, List.set_cons_succ]
      refine wpAnyT_take (i := 9) (oi := { dst := some 79, op := Op.binOp BinOp.add 3 (Operand.tmp 75) (Operand.tmp 78) 3, type := 3, pos := "plain.go:149", after := #[{ on := 5, ground := Ground.data }, { on := 8, ground := Ground.data }], guard := none }) (v := (.int .i64 ((i : Int) + (sk : Int)))) rfl (by kernel_rfl) (fun _ _ _ h => h) (Or.inl ⟨by rfl, ?_⟩) (KB.out _ GB.out) ?_
      · intro w hSw
        (try dsimp only at hSw)
        go_simp
      simp only [Act.put, List.setIfInBounds_toArray, List.set_cons_zero, List.set_cons_succ]
      refine wpAnyT_take (i := 10) (oi := { dst := some 80, op := Op.move (Operand.tmp 0), type := 3, pos := "plain.go:149", after := #[], guard := none }) (v := (.int .i64 (n : Int))) rfl (by kernel_rfl) (fun _ _ _ h => h) (Or.inl ⟨by rfl, ?_⟩) (KB.out _ GB.out) ?_
      · intro w hSw
        (try dsimp only at hSw)
        go_simp
      simp only [Act.put, List.setIfInBounds_toArray, List.set_cons_zero, List.set_cons_succ]
      refine wpAnyT_take (i := 11) (oi := { dst := some 81, op := Op.binOp BinOp.rem 3 (Operand.tmp 79) (Operand.tmp 80) 3, type := 3, pos := "plain.go:149", after := #[{ on := 9, ground := Ground.data }, { on := 10, ground := Ground.data }], guard := none }) (v := (.int .i64 (f2 : Int))) rfl (by kernel_rfl) (fun _ _ _ h => h) (Or.inl ⟨by rfl, ?_⟩) (KB.out _ GB.out) ?_
      · intro w hSw
        (try dsimp only at hSw)
        go_simp
      simp only [Act.put, List.setIfInBounds_toArray, List.set_cons_zero, List.set_cons_succ]
      refine wpAnyT_take (i := 12) (oi := { dst := some 82, op := Op.binOp BinOp.add 3 (Operand.tmp 74) (Operand.tmp 81) 3, type := 3, pos := "plain.go:149", after := #[{ on := 4, ground := Ground.data }, { on := 11, ground := Ground.data }], guard := none }) (v := (.int .i64 (ix2 : Int))) rfl (by kernel_rfl) (fun _ _ _ h => h) (Or.inl ⟨by rfl, ?_⟩) (KB.out _ GB.out) ?_
      · intro w hSw
        (try dsimp only at hSw)
        go_simp
      simp only [Act.put, List.setIfInBounds_toArray, List.set_cons_zero, List.set_cons_succ]
      refine wpAnyT_take (i := 13) (oi := { dst := some 83, op := Op.move (Operand.tmp 2), type := 3, pos := "plain.go:149", after := #[], guard := none }) (v := (.int .i64 (k : Int))) rfl (by kernel_rfl) (fun _ _ _ h => h) (Or.inl ⟨by rfl, ?_⟩) (KB.out _ GB.out) ?_
      · intro w hSw
        (try dsimp only at hSw)
        go_simp
      simp only [Act.put, List.setIfInBounds_toArray, List.set_cons_zero, List.set_cons_succ]
      refine wpAnyT_take (i := 14) (oi := { dst := some 84, op := Op.binOp BinOp.rem 3 (Operand.tmp 83) (Operand.const (Value.int IntKind.i64 2)) 3, type := 3, pos := "plain.go:149", after := #[{ on := 13, ground := Ground.data }], guard := none }) (v := (.int .i64 ((k : Int) % 2))) rfl (by kernel_rfl) (fun _ _ _ h => h) (Or.inl ⟨by rfl, ?_⟩) (KB.out _ GB.out) ?_
      · intro w hSw
        (try dsimp only at hSw)
        go_simp
      simp only [Act.put, List.setIfInBounds_toArray, List.set_cons_zero, List.set_cons_succ]
      refine wpAnyT_take (i := 15) (oi := { dst := some 85, op := Op.binOp BinOp.eql 3 (Operand.tmp 84) (Operand.const (Value.int IntKind.i64 1)) 3, type := 4, pos := "plain.go:149", after := #[{ on := 14, ground := Ground.data }], guard := none }) (v := (.bool bk)) rfl (by kernel_rfl) (fun _ _ _ h => h) (Or.inl ⟨by rfl, ?_⟩) (KB.out _ GB.out) ?_
      · intro w hSw
        (try dsimp only at hSw)
        go_simp
      simp only [Act.put, List.setIfInBounds_toArray, List.set_cons_zero, List.set_cons_succ]
      refine wpAnyT_one (i := 16) (o := { dst := some 86, op := Op.buildSlice 35 1 #[(0, Operand.const (Value.int IntKind.u64 1))], type := 35, pos := "plain.go:149", after := #[], guard := none }) (by kernel_rfl) rfl (fun K hK => ?_)
      go_simp
      obtain ⟨V45, hW⟩ : ∃ V45, D44.alloc (.cells #[.int .u64 1] 41) = V45 := ⟨_, rfl⟩
      obtain ⟨b, sz9⟩ := alo1 D44 (.cells #[.int .u64 1] 41)
      rw [hW] at b sz9
      replace GB := hid (below_step GB.out b)
      have Zb : Hid (Zc V45 (.agg #[.bool bk, .slice (some ⟨D44.heap.size, 0, none⟩) 1 1]) (if bk = true then -1 else 1) 1) := by unfold Hid; rw [← hW]; exact lit9 D44
      rw [hW]
      clear hW b sz9
      refine hK.out _ _ (fun _ => KB.out _ GB.out) ?_
      clear hK
      try simp only [Act.put]
      refine wpAnyT_take (i := 17) (oi := { dst := some 87, op := Op.build 37 #[(0, Operand.tmp 85), (1, Operand.tmp 86)], type := 37, pos := "plain.go:149", after := #[{ on := 15, ground := Ground.data }, { on := 16, ground := Ground.data }], guard := none }) (v := (.agg #[.bool bk, (.slice (some ⟨D44.heap.size, 0, none⟩) 1 1)])) rfl (by kernel_rfl) (fun _ _ _ h => h) (Or.inl ⟨by rfl, ?_⟩) (KB.out _ GB.out) ?_
      · intro w hSw
        (try dsimp only at hSw)
        go_simp
      simp only [Act.put, List.setIfInBounds_toArray, List.set_cons_zero, List.set_cons_succ]
      refine wpAnyT_take (i := 18) (oi := { dst := some 88, op := Op.indexAddr 22 (Operand.tmp 71) (Operand.tmp 82), type := 0, pos := "plain.go:149", after := #[{ on := 1, ground := Ground.data }, { on := 12, ground := Ground.data }, { on := 0, ground := Ground.phase }, { on := 1, ground := Ground.phase }, { on := 2, ground := Ground.phase }, { on := 3, ground := Ground.phase }, { on := 4, ground := Ground.phase }, { on := 5, ground := Ground.phase }, { on := 6, ground := Ground.phase }, { on := 7, ground := Ground.phase }, { on := 8, ground := Ground.phase }, { on := 9, ground := Ground.phase }, { on := 10, ground := Ground.phase }, { on := 11, ground := Ground.phase }, { on := 12, ground := Ground.phase }, { on := 13, ground := Ground.phase }, { on := 14, ground := Ground.phase }, { on := 15, ground := Ground.phase }, { on := 16, ground := Ground.phase }, { on := 17, ground := Ground.phase }], guard := none }) (v := (.pointer (some ⟨g2, ix2 * 2, none⟩))) rfl (by kernel_rfl) (fun _ _ _ h => h) (Or.inl ⟨by rfl, ?_⟩) (KB.out _ GB.out) ?_
      · intro w hSw
        (try dsimp only at hSw)
        go_simp
      simp only [Act.put, List.setIfInBounds_toArray, List.set_cons_zero, List.set_cons_succ]
      refine wpAnyT_one (i := 19) (o := { dst := none, op := Op.store 37 (Operand.tmp 88) (Operand.tmp 87), type := 0, pos := "plain.go:149", after := #[{ on := 18, ground := Ground.data }, { on := 17, ground := Ground.data }, { on := 0, ground := Ground.phase }, { on := 1, ground := Ground.phase }, { on := 2, ground := Ground.phase }, { on := 3, ground := Ground.phase }, { on := 4, ground := Ground.phase }, { on := 5, ground := Ground.phase }, { on := 6, ground := Ground.phase }, { on := 7, ground := Ground.phase }, { on := 8, ground := Ground.phase }, { on := 9, ground := Ground.phase }, { on := 10, ground := Ground.phase }, { on := 11, ground := Ground.phase }, { on := 12, ground := Ground.phase }, { on := 13, ground := Ground.phase }, { on := 14, ground := Ground.phase }, { on := 15, ground := Ground.phase }, { on := 16, ground := Ground.phase }, { on := 17, ground := Ground.phase }], guard := none }) (by kernel_rfl) rfl (fun K hK => ?_)
      have A3 := hid (A2.out.step GB.out)
      have B3 := hid (B2.out.step GB.out)
      have PA3 := hid (PA2.out.step GB.out)
      have PB3 := hid (PB2.out.step GB.out)
      have G3 := hid (below_step G2.out GB.out)
      obtain ⟨m0, am, lm, cm, e0, e1, e2, e3⟩ := B3.out.cells hx2
      go_simp
      clear e0 e1 e2 e3
      obtain ⟨V46, hW⟩ : ∃ V46, ((V45.setCell ⟨g2, ix2 * 2, none⟩ (.bool bk)).setCell ⟨g2, ix2 * 2 + 1, none⟩ (.slice (some ⟨D44.heap.size, 0, none⟩) 1 1)) = V46 := ⟨_, rfl⟩
      have BP := B3.out.put hx2 Zb.out
      have ll := LL.out
      have hk1 := BP.2
      have HN1 : Hid (ShH w g1 g2 p1 p2 n s k (n - (i + 1)) (.int .i64 ((i + 1 : Nat) : Int)) V46) := by
        unfold Hid
        rw [← hW]
        refine ⟨i + 1, rfl, by omega, rfl, ?_, ?_, ?_, ?_, bset (bset G3.out (by omega)) (by omega)⟩
        · rw [UL1.out, HNN.out]; exact A3.out.off (by omega) hk1
        · rw [ESK.out, SG.out, UL2.out, HNN.out]; exact BP.1
        · rw [HNN.out]; exact (PA3.out.ne (by omega)).ne (by omega)
        · rw [HNN.out]; exact (PB3.out.ne (by omega)).ne (by omega)
      clear BP hk1 ll
      rw [hW]
      clear hW
      refine hK.out _ _ (fun h => absurd h (by decide)) ?_
      clear hK
      try simp only [Act.put]
      refine wpAnyT_done (by kernel_rfl) ?_ _
      have HMM : Hid (n - (i + 1) < gk) := by unfold Hid; rw [HG.out]; omega
      clear GB KB HG A2 B2 PA2 PB2 G2 A3 B3 PA3 PB3 G3 Zb UL1 UL2 ESK SG
      go_wp2_with fail
      go_roundg (n - (i + 1))
      case rel => exact HN1.out
      case measure => exact HMM.out
    · have hlt' : ¬ (i : Int) < (n : Int) := by omega
      obtain rfl : i = n := by omega
      have PAx := PA.out
      have PBx := PB.out
      rw [← HNN.out] at A B PAx PBx
      have MA := hid (A.out.mc (putsL_length i) hn)
      have MB := hid (B.out.mc (putsL_length i) hn)
      have HP := hid (pow_yes (n := k) MA.out.mx hk (by omega))
      have EQ : Hid (powL i (putsL i (fun j => (j + s) % i) (-1) i) k = putsL i (fun j => (j + s * k) % i) (sg k) i) := shift_pow hn0 k
      rw [EQ.out] at HP
      generalize putsL i (fun j => (j + s * k) % i) (sg k) i = ZW at *
      rw [HNN.out] at HP MB
      have x0 := PA.out.at (i := 0) rfl
      have x1 := PA.out.at (i := 1) rfl
      have x2 := PA.out.at (i := 2) rfl
      clear HG A B MA EQ PAx PBx
      go_wp2_with fail
      refine HP.out.mono ?_
      rintro e w5 ⟨v, rfl, hm, b⟩
      obtain ⟨ap, qp, rfl, -, -⟩ := hm.mx.form
      rw [HNN.out] at hm ⊢
      have PB5 := hid (PB.out.step b)
      have MB5 := hid (MB.out.now b)
      have G5 := hid (below_step G.out b)
      have MP := hid hm
      obtain ⟨V5, hV⟩ : ∃ V5, w5.alloc (matO i i (.slice ap N qp)) = V5 := ⟨_, rfl⟩
      obtain ⟨b5, sz5⟩ := alo1 w5 (matO i i (.slice ap N qp))
      rw [hV] at b5
      have PP : Hid (Cel V5 w5.heap.size 24 (matc i i (.slice ap N qp))) := by unfold Hid; rw [← hV]; exact Cel.new w5 _ _
      have HS := hid (alikeMats9_yes (MP.out.now b5) (MB5.out.now b5) rfl)
      have y0 := PP.out.at (i := 0) rfl
      have y1 := PP.out.at (i := 1) rfl
      have y2 := PP.out.at (i := 2) rfl
      have z0 := (PB5.out.step b5).at (i := 0) rfl
      have z1 := (PB5.out.step b5).at (i := 1) rfl
      have z2 := (PB5.out.step b5).at (i := 2) rfl
      rw [← hV] at y0 y1 y2 z0 z1 z2
      have G6 := hid (below_step G5.out b5)
      have EV := hid hV
      clear HP hm b b5 sz5 hV x0 x1 x2 PA PB PB5 MB MB5 MP PP G G5
      go_wp2_with fail
      rw [EV.out]
      refine HS.out.mono ?_
      rintro e w6 ⟨rfl, b⟩
      have G7 := hid (below_step G6.out b)
      clear HS b G6 EV y0 y1 y2 z0 z1 z2
      go_wp2
      go_ret
      exact ⟨rfl, G7.out⟩
set_option maxHeartbeats 3200000 in
set_option maxRecDepth 100000 in
theorem matShifts_any {w : World} {side s k : Int} : Calls Try.prog 5 #[.int .i64 side, .int .i64 s, .int .i64 k] w fun e w' => e = .returned (.bool true) ∧ Below w.heap.size w w' := by
  by_cases h1 : side < 1
  case pos =>
    go_enter Try.func5, Try.ntmps5
    go_wp2_with fail
    refine (wakes9 w).mono ?_
    rintro e w1 ⟨rfl, b⟩
    have G1 := hid b
    clear b
    go_wp2
    go_ret
    exact ⟨rfl, G1.out⟩
  by_cases h2 : 64 < side
  case pos =>
    go_enter Try.func5, Try.ntmps5
    go_wp2_with fail
    refine (wakes9 w).mono ?_
    rintro e w1 ⟨rfl, b⟩
    have G1 := hid b
    clear b
    go_wp2
    go_ret
    exact ⟨rfl, G1.out⟩
  by_cases h3 : s < 0
  case pos =>
    go_enter Try.func5, Try.ntmps5
    go_wp2_with fail
    refine (wakes9 w).mono ?_
    rintro e w1 ⟨rfl, b⟩
    have G1 := hid b
    clear b
    go_wp2
    go_ret
    exact ⟨rfl, G1.out⟩
  by_cases h4 : side ≤ s
  case pos =>
    go_enter Try.func5, Try.ntmps5
    go_wp2_with fail
    refine (wakes9 w).mono ?_
    rintro e w1 ⟨rfl, b⟩
    have G1 := hid b
    clear b
    go_wp2
    go_ret
    exact ⟨rfl, G1.out⟩
  by_cases h5 : k < 0
  case pos =>
    go_enter Try.func5, Try.ntmps5
    go_wp2_with fail
    refine (wakes9 w).mono ?_
    rintro e w1 ⟨rfl, b⟩
    have G1 := hid b
    clear b
    go_wp2
    go_ret
    exact ⟨rfl, G1.out⟩
  by_cases h6 : 256 < k
  case pos =>
    go_enter Try.func5, Try.ntmps5
    go_wp2_with fail
    refine (wakes9 w).mono ?_
    rintro e w1 ⟨rfl, b⟩
    have G1 := hid b
    clear b
    go_wp2
    go_ret
    exact ⟨rfl, G1.out⟩
  obtain ⟨n, rfl⟩ := Int.eq_ofNat_of_zero_le (show 0 ≤ side by omega)
  obtain ⟨s', rfl⟩ := Int.eq_ofNat_of_zero_le (show 0 ≤ s by omega)
  obtain ⟨k', rfl⟩ := Int.eq_ofNat_of_zero_le (show 0 ≤ k by omega)
  exact matShifts_in (by omega) (by omega) (by omega) (by omega)
end Go.Proofs.Ytojhmkkjjalonaa
