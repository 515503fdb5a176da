/-
  Sa25: the program's start: a character at which no token goes on.
-/
import Derived.Test.YtdfnehngffajiabDoorQEn25
namespace Go.Proofs.YtdfnehngffajiabDoor
open Go.RowKit
set_option linter.unusedVariables false

/-- What start answers. -/
def StaD (w : World) (c B : Nat) (s : ByteArray) (lv : Value) (col bb rc : Nat) (ft : Int) (L : List Tok) (p R k : Nat) (y : Ending) (w' : World) : Prop :=
  Bc c B w w' ∧ ((k = 1 ∧ y = .returned (.int .i64 13) ∧ ∃ lv op bb rc cm, Cu w' c s lv col op bb rc cm col) ∨
  (k = 2 ∧ y = .returned (.int .i64 0) ∧ Cu w' c s lv col 0 bb rc false ft ∧ Toks B w' lv L) ∨
  (k = 3 ∧ y = .returned (.int .i64 0) ∧ Cu w' c s lv col 0 bb rc true ft ∧ Toks B w' lv L) ∨
  (k = 4 ∧ y = .returned (.int .i64 0) ∧ Cu w' c s lv col 1 p col false ft ∧ Toks B w' lv L) ∨
  ((k = 5 ∨ k = 6) ∧ y = .returned (.int .i64 0) ∧ Cu w' c s lv col 2 p col false ft ∧ Toks B w' lv L) ∨
  (k = 7 ∧ y = .returned (.int .i64 0) ∧ ∃ lv', Cu w' c s lv' col 0 bb rc false ft ∧ Toks B w' lv' (L ++ [⟨3, mkS R, (col : Int)⟩])))
variable {w : World} {c B : Nat} {s : ByteArray} {lv : Value} {col bb rc : Nat} {ft : Int} {L : List Tok} {p R : Nat}
set_option maxHeartbeats 3200000 in
set_option maxRecDepth 100000 in
theorem start25 (hC : Cu w c s lv col 0 bb rc false ft) (hT : Toks B w lv L) (hcB : c < B) (hBw : B ≤ w.heap.size) (hL : L.length ≤ 1000000000000) (k : Nat) (hk : 1 ≤ k ∧ k ≤ 7) : Calls Tryd.prog 20 #[.pointer (some ⟨c, 0, none⟩), .int .i64 (p : Int), .int .i32 (R : Int), .int .i64 (k : Int)] w (StaD w c B s lv col bb rc ft L p R k) := by
  obtain ⟨la, ll, lc, hlv⟩ : ∃ a n k, lv = .slice a n k := by obtain ⟨a, k, e⟩ := hT.form; exact ⟨a, _, k, e⟩
  subst hlv
  obtain rfl | rfl | rfl | rfl | rfl | rfl | rfl : k = 1 ∨ k = 2 ∨ k = 3 ∨ k = 4 ∨ k = 5 ∨ k = 6 ∨ k = 7 := by omega
  · have k2 := hC.at (i := 2) rfl
    have HW := hid (wrong25 hC)
    have CF : Hid (Cu (w.setCell ⟨c, 7, none⟩ (.int .i64 (col : Int))) c s (.slice la ll lc) col 0 bb rc false col) := hid (hC.set 7 _)
    have BF : Hid (Bc c B w (w.setCell ⟨c, 7, none⟩ (.int .i64 (col : Int)))) := hid ((Bc.refl c B w).set 7 _)
    clear hC hT
    go_enter Tryd.func20, Tryd.ntmps20
    go_wp2_with fail
    refine (HW.out _ _).mono ?_
    rintro e w1 ⟨rfl, hw1⟩
    obtain rfl := hw1.symm
    clear HW k2
    go_wp2
    go_ret
    exact ⟨BF.out, .inl ⟨rfl, rfl, _, _, _, _, _, CF.out⟩⟩
  · have FIN : Hid (StaD w c B s (.slice la ll lc) col bb rc ft L p R 2 (.returned (.int .i64 0)) w) := hid ⟨Bc.refl _ _ _, .inr (.inl ⟨rfl, rfl, hC, hT⟩)⟩
    clear hC hT
    go_enter Tryd.func20, Tryd.ntmps20
    go_wp2
    go_ret
    exact FIN.out
  · have k6 := hC.at (i := 6) rfl
    have z6 := hC.fz 6
    have CF : Hid (Cu (w.setCell ⟨c, 6, none⟩ (.bool true)) c s (.slice la ll lc) col 0 bb rc true ft) := hid (hC.set 6 _)
    have TF : Hid (Toks B (w.setCell ⟨c, 6, none⟩ (.bool true)) (.slice la ll lc) L) := hid (hT.set hcB)
    have BF : Hid (Bc c B w (w.setCell ⟨c, 6, none⟩ (.bool true))) := hid ((Bc.refl c B w).set 6 _)
    clear hC hT
    go_enter Tryd.func20, Tryd.ntmps20
    go_wp2
    go_ret
    exact ⟨BF.out, .inr (.inr (.inl ⟨rfl, rfl, CF.out, TF.out⟩))⟩
  · have k2 := hC.at (i := 2) rfl
    have k3 := hC.at (i := 3) rfl
    have k4 := hC.at (i := 4) rfl
    have k5 := hC.at (i := 5) rfl
    have z3 := hC.fz 3
    have z4 := hC.fz 4
    have z5 := hC.fz 5
    have hC1 := hC.set 3 (.int .i64 1)
    have hC2 := hC1.set 4 (.int .i64 (p : Int))
    have k4' := hC1.at (i := 4) rfl
    have z4' := hC1.fz 4
    have k5' := hC2.at (i := 5) rfl
    have z5' := hC2.fz 5
    have CF : Hid (Cu (((w.setCell ⟨c, 3, none⟩ (.int .i64 1)).setCell ⟨c, 4, none⟩ (.int .i64 (p : Int))).setCell ⟨c, 5, none⟩ (.int .i64 (col : Int))) c s (.slice la ll lc) col 1 p col false ft) := hid (hC2.set 5 _)
    have TF : Hid (Toks B (((w.setCell ⟨c, 3, none⟩ (.int .i64 1)).setCell ⟨c, 4, none⟩ (.int .i64 (p : Int))).setCell ⟨c, 5, none⟩ (.int .i64 (col : Int))) (.slice la ll lc) L) := hid (((hT.set hcB).set hcB).set hcB)
    have BF : Hid (Bc c B w (((w.setCell ⟨c, 3, none⟩ (.int .i64 1)).setCell ⟨c, 4, none⟩ (.int .i64 (p : Int))).setCell ⟨c, 5, none⟩ (.int .i64 (col : Int)))) := hid ((((Bc.refl c B w).set 3 _).set 4 _).set 5 _)
    clear hC hT hC1 hC2
    go_enter Tryd.func20, Tryd.ntmps20
    go_wp2
    go_ret
    exact ⟨BF.out, .inr (.inr (.inr (.inl ⟨rfl, rfl, CF.out, TF.out⟩)))⟩
  · have k2 := hC.at (i := 2) rfl
    have k3 := hC.at (i := 3) rfl
    have k4 := hC.at (i := 4) rfl
    have k5 := hC.at (i := 5) rfl
    have z3 := hC.fz 3
    have z4 := hC.fz 4
    have z5 := hC.fz 5
    have hC1 := hC.set 3 (.int .i64 2)
    have hC2 := hC1.set 4 (.int .i64 (p : Int))
    have k4' := hC1.at (i := 4) rfl
    have z4' := hC1.fz 4
    have k5' := hC2.at (i := 5) rfl
    have z5' := hC2.fz 5
    have CF : Hid (Cu (((w.setCell ⟨c, 3, none⟩ (.int .i64 2)).setCell ⟨c, 4, none⟩ (.int .i64 (p : Int))).setCell ⟨c, 5, none⟩ (.int .i64 (col : Int))) c s (.slice la ll lc) col 2 p col false ft) := hid (hC2.set 5 _)
    have TF : Hid (Toks B (((w.setCell ⟨c, 3, none⟩ (.int .i64 2)).setCell ⟨c, 4, none⟩ (.int .i64 (p : Int))).setCell ⟨c, 5, none⟩ (.int .i64 (col : Int))) (.slice la ll lc) L) := hid (((hT.set hcB).set hcB).set hcB)
    have BF : Hid (Bc c B w (((w.setCell ⟨c, 3, none⟩ (.int .i64 2)).setCell ⟨c, 4, none⟩ (.int .i64 (p : Int))).setCell ⟨c, 5, none⟩ (.int .i64 (col : Int)))) := hid ((((Bc.refl c B w).set 3 _).set 4 _).set 5 _)
    clear hC hT hC1 hC2
    go_enter Tryd.func20, Tryd.ntmps20
    go_wp2
    go_ret
    exact ⟨BF.out, .inr (.inr (.inr (.inr (.inl ⟨.inl rfl, rfl, CF.out, TF.out⟩))))⟩
  · have k2 := hC.at (i := 2) rfl
    have k3 := hC.at (i := 3) rfl
    have k4 := hC.at (i := 4) rfl
    have k5 := hC.at (i := 5) rfl
    have z3 := hC.fz 3
    have z4 := hC.fz 4
    have z5 := hC.fz 5
    have hC1 := hC.set 3 (.int .i64 2)
    have hC2 := hC1.set 4 (.int .i64 (p : Int))
    have k4' := hC1.at (i := 4) rfl
    have z4' := hC1.fz 4
    have k5' := hC2.at (i := 5) rfl
    have z5' := hC2.fz 5
    have CF : Hid (Cu (((w.setCell ⟨c, 3, none⟩ (.int .i64 2)).setCell ⟨c, 4, none⟩ (.int .i64 (p : Int))).setCell ⟨c, 5, none⟩ (.int .i64 (col : Int))) c s (.slice la ll lc) col 2 p col false ft) := hid (hC2.set 5 _)
    have TF : Hid (Toks B (((w.setCell ⟨c, 3, none⟩ (.int .i64 2)).setCell ⟨c, 4, none⟩ (.int .i64 (p : Int))).setCell ⟨c, 5, none⟩ (.int .i64 (col : Int))) (.slice la ll lc) L) := hid (((hT.set hcB).set hcB).set hcB)
    have BF : Hid (Bc c B w (((w.setCell ⟨c, 3, none⟩ (.int .i64 2)).setCell ⟨c, 4, none⟩ (.int .i64 (p : Int))).setCell ⟨c, 5, none⟩ (.int .i64 (col : Int)))) := hid ((((Bc.refl c B w).set 3 _).set 4 _).set 5 _)
    clear hC hT hC1 hC2
    go_enter Tryd.func20, Tryd.ntmps20
    go_wp2
    go_ret
    exact ⟨BF.out, .inr (.inr (.inr (.inr (.inl ⟨.inr rfl, rfl, CF.out, TF.out⟩))))⟩
  · have HM : Hid (∀ wx : World, Calls Tryd.prog 24 #[.int .i32 (R : Int)] wx fun e w' => e = .returned (.string (mkS R)) ∧ w' = wx) := hid fun wx => markText25 wx R
    obtain ⟨x, hx⟩ : ∃ x, mkS R = x := ⟨_, rfl⟩
    have HX := hid hx
    rw [hx] at HM
    clear hx
    have HC1 := hid hC
    have HT1 := hid hT
    clear hC hT
    go_enter Tryd.func20, Tryd.ntmps20
    go_wp2_with fail
    have k1 := HC1.out.at (i := 1) rfl
    have k2 := HC1.out.at (i := 2) rfl
    have hcl := HC1.out.lt
    have KB : Hid (∀ w', Below w.heap.size w w' → w'.cell? ⟨c, 1, none⟩ = some (.slice la ll lc) ∧ w'.cell? ⟨c, 2, none⟩ = some (.int .i64 (col : Int))) := fun w' h => ⟨cnow h k1, cnow h k2⟩
    refine wp_region_tail (fun w' => w'.cell? ⟨c, 1, none⟩ = some (.slice la ll lc) ∧ w'.cell? ⟨c, 2, none⟩ = some (.int .i64 (col : Int))) 16 (by kernel_rfl) ?_
    obtain ⟨D21, hD⟩ : ∃ D21, w.drew = D21 := ⟨_, rfl⟩
    have GB : Hid (Below w.heap.size w D21) := by unfold Hid; rw [← hD]; exact (Below.refl _ _).drew
    rw [hD]
    clear hD
    have KC := hid (KB.out _ GB.out)
    refine wpAnyT_take (i := 0) (oi := { dst := some 58, op := Op.move (Operand.tmp 0), type := 57, pos := "cutter.go:51", after := #[], guard := none }) (v := (.pointer (some ⟨c, 0, none⟩))) rfl (by kernel_rfl) (fun _ _ _ h => h) (Or.inl ⟨by rfl, ?_⟩) (KC.out) ?_
    · intro w hSw
      (try dsimp only at hSw)
      go_simp
    simp only [Act.put, List.setIfInBounds_toArray, List.set_cons_zero, List.set_cons_succ]
    refine wpAnyT_take (i := 1) (oi := { dst := some 59, op := Op.move (Operand.tmp 0), type := 57, pos := "cutter.go:51", after := #[], guard := none }) (v := (.pointer (some ⟨c, 0, none⟩))) rfl (by kernel_rfl) (fun _ _ _ h => h) (Or.inl ⟨by rfl, ?_⟩) (KC.out) ?_
    · intro w hSw
      (try dsimp only at hSw)
      go_simp
    simp only [Act.put, List.setIfInBounds_toArray, List.set_cons_zero, List.set_cons_succ]
    refine wpAnyT_take (i := 2) (oi := { dst := some 60, op := Op.nilCheck (Operand.tmp 59), type := 0, pos := "cutter.go:51", after := #[{ on := 1, ground := Ground.data }], guard := none }) (v := (.pointer (some ⟨c, 0, none⟩))) rfl (by kernel_rfl) (fun _ _ _ h => h) (Or.inl ⟨by rfl, ?_⟩) (KC.out) ?_
    · intro w hSw
      (try dsimp only at hSw)
      go_simp
    simp only [Act.put, List.setIfInBounds_toArray, List.set_cons_zero, List.set_cons_succ]
    refine wpAnyT_take (i := 3) (oi := { dst := some 61, op := Op.fieldAddr 44 (Operand.tmp 60) 1, type := 0, pos := "cutter.go:51", after := #[{ on := 2, ground := Ground.data }], guard := none }) (v := (.pointer (some ⟨c, 1, none⟩))) rfl (by kernel_rfl) (fun _ _ _ h => h) (Or.inl ⟨by rfl, ?_⟩) (KC.out) ?_
    · intro w hSw
      (try dsimp only at hSw)
      go_simp
    simp only [Act.put, List.setIfInBounds_toArray, List.set_cons_zero, List.set_cons_succ]
    refine wpAnyT_take (i := 4) (oi := { dst := some 62, op := Op.load 23 (Operand.tmp 61), type := 23, pos := "cutter.go:51", after := #[{ on := 3, ground := Ground.data }], guard := none }) (v := (.slice la ll lc)) rfl (by kernel_rfl) (fun _ _ _ h => h) (Or.inl ⟨by rfl, ?_⟩) (KC.out) ?_
    · intro w hSw
      (try dsimp only at hSw)
      go_simp
    simp only [Act.put, List.setIfInBounds_toArray, List.set_cons_zero, List.set_cons_succ]
    refine wpAnyT_take (i := 5) (oi := { dst := some 63, op := Op.move (Operand.tmp 2), type := 21, pos := "cutter.go:51", after := #[], guard := none }) (v := (.int .i32 (R : Int))) rfl (by kernel_rfl) (fun _ _ _ h => h) (Or.inl ⟨by rfl, ?_⟩) (KC.out) ?_
    · intro w hSw
      (try dsimp only at hSw)
      go_simp
    simp only [Act.put, List.setIfInBounds_toArray, List.set_cons_zero, List.set_cons_succ]
    refine wpAnyT_take (i := 7) (oi := { dst := some 65, op := Op.move (Operand.tmp 0), type := 57, pos := "cutter.go:51", after := #[], guard := none }) (v := (.pointer (some ⟨c, 0, none⟩))) rfl (by kernel_rfl) (fun _ _ _ h => h) (Or.inl ⟨by rfl, ?_⟩) (KC.out) ?_
    · intro w hSw
      (try dsimp only at hSw)
      go_simp
    simp only [Act.put, List.setIfInBounds_toArray, List.set_cons_zero, List.set_cons_succ]
    refine wpAnyT_take (i := 8) (oi := { dst := some 66, op := Op.nilCheck (Operand.tmp 65), type := 0, pos := "cutter.go:51", after := #[{ on := 7, ground := Ground.data }], guard := none }) (v := (.pointer (some ⟨c, 0, none⟩))) rfl (by kernel_rfl) (fun _ _ _ h => h) (Or.inl ⟨by rfl, ?_⟩) (KC.out) ?_
    · intro w hSw
      (try dsimp only at hSw)
      go_simp
    simp only [Act.put, List.setIfInBounds_toArray, List.set_cons_zero, List.set_cons_succ]
    refine wpAnyT_take (i := 9) (oi := { dst := some 67, op := Op.fieldAddr 44 (Operand.tmp 66) 2, type := 0, pos := "cutter.go:51", after := #[{ on := 8, ground := Ground.data }], guard := none }) (v := (.pointer (some ⟨c, 2, none⟩))) rfl (by kernel_rfl) (fun _ _ _ h => h) (Or.inl ⟨by rfl, ?_⟩) (KC.out) ?_
    · intro w hSw
      (try dsimp only at hSw)
      go_simp
    simp only [Act.put, List.setIfInBounds_toArray, List.set_cons_zero, List.set_cons_succ]
    refine wpAnyT_take (i := 10) (oi := { dst := some 68, op := Op.load 3 (Operand.tmp 67), type := 3, pos := "cutter.go:51", after := #[{ on := 9, ground := Ground.data }], guard := none }) (v := (.int .i64 (col : Int))) rfl (by kernel_rfl) (fun _ _ _ h => h) (Or.inl ⟨by rfl, ?_⟩) (KC.out) ?_
    · intro w hSw
      (try dsimp only at hSw)
      go_simp
    simp only [Act.put, List.setIfInBounds_toArray, List.set_cons_zero, List.set_cons_succ]
    refine wpAnyT_one (i := 6) (o := { dst := some 64, op := Op.call { callee := Callee.value (Operand.func 24), args := #[Operand.tmp 63], argTypes := #[21] }, type := 9, pos := "cutter.go:51", after := #[{ on := 5, ground := Ground.data }], guard := none }) (by kernel_rfl) rfl (fun K hK => ?_)
    go_simp
    go_at_call 24
    refine (HM.out _).mono ?_
    rintro e w22 ⟨rfl, hw6⟩
    obtain rfl := hw6.symm
    clear hw6
    refine hK.out _ _ (fun _ => KC.out) ?_
    clear hK
    refine wpAnyT_take (i := 11) (oi := { dst := some 69, op := Op.build 30 #[(0, Operand.const (Value.int IntKind.i64 3)), (1, Operand.tmp 64), (2, Operand.tmp 68)], type := 30, pos := "cutter.go:51", after := #[{ on := 6, ground := Ground.data }, { on := 10, ground := Ground.data }], guard := none }) (v := (.agg #[.int .i64 3, .string x, .int .i64 (col : Int)])) rfl (by kernel_rfl) (fun _ _ _ h => h) (Or.inl ⟨by rfl, ?_⟩) (KC.out) ?_
    · intro w hSw
      (try dsimp only at hSw)
      go_simp
    simp only [Act.put, List.setIfInBounds_toArray, List.set_cons_zero, List.set_cons_succ]
    refine wpAnyT_one (i := 12) (o := { dst := some 70, op := Op.buildSlice 23 1 #[(0, Operand.tmp 69)], type := 23, pos := "cutter.go:51", after := #[{ on := 11, ground := Ground.data }], guard := none }) (by kernel_rfl) rfl (fun K hK => ?_)
    go_simp
    obtain ⟨V23, hW⟩ : ∃ V, D21.alloc (.cells #[.int .i64 3, .string x, .int .i64 (col : Int)] 30) = V := ⟨_, rfl⟩
    obtain ⟨b, sz0⟩ := alo1 D21 (.cells #[.int .i64 3, .string x, .int .i64 (col : Int)] 30)
    have y0 : Hid ((D21.alloc (.cells #[.int .i64 3, .string x, .int .i64 (col : Int)] 30)).cell? ⟨D21.heap.size, 0, none⟩ = some (.int .i64 3)) := hid (by simp)
    have y1 : Hid ((D21.alloc (.cells #[.int .i64 3, .string x, .int .i64 (col : Int)] 30)).cell? ⟨D21.heap.size, 1, none⟩ = some (.string x)) := hid (by simp)
    have y2 : Hid ((D21.alloc (.cells #[.int .i64 3, .string x, .int .i64 (col : Int)] 30)).cell? ⟨D21.heap.size, 2, none⟩ = some (.int .i64 (col : Int))) := hid (by simp)
    rw [hW] at b sz0 y0 y1 y2
    replace GB := hid (below_step GB.out b)
    replace KC := hid (KB.out _ GB.out)
    rw [hW]
    clear hW b sz0
    refine hK.out _ _ (fun _ => KC.out) ?_
    clear hK
    try simp only [Act.put]
    refine wpAnyT_one (i := 13) (o := { dst := some 71, op := Op.call { callee := Callee.builtin Builtin.append, args := #[Operand.tmp 62, Operand.tmp 70], argTypes := #[23, 23] }, type := 23, pos := "cutter.go:51", after := #[{ on := 4, ground := Ground.data }, { on := 12, ground := Ground.data }, { on := 6, ground := Ground.chain }], guard := none }) (by kernel_rfl) rfl (fun K hK => ?_)
    have HTX : Hid (Toks B V23 (.slice la ll lc) L) := hid (HT1.out.now GB.out)
    have CX : Hid (Cu V23 c s (.slice la ll lc) col 0 bb rc false ft) := hid (HC1.out.keep (GB.out.block c hcl))
    refine step_append_tok25 V23 rfl (.tmp 62) (.tmp 70) rfl B (.slice la ll lc) L ⟨3, x, (col : Int)⟩ rfl HTX.out D21.heap.size rfl y0.out y1.out y2.out hL (Nat.le_trans hBw GB.out.size) ?_
    intro m9 a9 cap9 w24 hm9 ht9 hb9
    have HT9 := hid ht9.out
    have HC9 : Hid (Cu w24 c s (.slice la ll lc) col 0 bb rc false ft) := hid (CX.out.keep (hb9.out.block c hcB))
    have HB9 : Hid (Bc c B w w24) := hid (Bc.of ((GB.out.mono hBw).trans hb9.out) hcB)
    replace KC := hid (⟨HC9.out.at (i := 1) rfl, HC9.out.at (i := 2) rfl⟩ : _ ∧ _)
    clear ht9 hb9 hm9 y0 y1 y2 HTX CX
    refine hK.out _ _ (fun _ => KC.out) ?_
    clear hK
    refine wpAnyT_take (i := 14) (oi := { dst := some 72, op := Op.nilCheck (Operand.tmp 58), type := 0, pos := "cutter.go:51", after := #[{ on := 0, ground := Ground.data }, { on := 0, ground := Ground.phase }, { on := 1, ground := Ground.phase }, { on := 2, ground := Ground.phase }, { on := 3, ground := Ground.phase }, { on := 4, ground := Ground.phase }, { on := 5, ground := Ground.phase }, { on := 6, ground := Ground.phase }, { on := 7, ground := Ground.phase }, { on := 8, ground := Ground.phase }, { on := 9, ground := Ground.phase }, { on := 10, ground := Ground.phase }, { on := 11, ground := Ground.phase }, { on := 12, ground := Ground.phase }, { on := 13, ground := Ground.phase }], guard := none }) (v := (.pointer (some ⟨c, 0, none⟩))) rfl (by kernel_rfl) (fun _ _ _ h => h) (Or.inl ⟨by rfl, ?_⟩) (KC.out) ?_
    · intro w hSw
      (try dsimp only at hSw)
      go_simp
    simp only [Act.put, List.setIfInBounds_toArray, List.set_cons_zero, List.set_cons_succ]
    refine wpAnyT_take (i := 15) (oi := { dst := some 73, op := Op.fieldAddr 44 (Operand.tmp 72) 1, type := 0, pos := "cutter.go:51", after := #[{ on := 14, ground := Ground.data }, { on := 0, ground := Ground.phase }, { on := 1, ground := Ground.phase }, { on := 2, ground := Ground.phase }, { on := 3, ground := Ground.phase }, { on := 4, ground := Ground.phase }, { on := 5, ground := Ground.phase }, { on := 6, ground := Ground.phase }, { on := 7, ground := Ground.phase }, { on := 8, ground := Ground.phase }, { on := 9, ground := Ground.phase }, { on := 10, ground := Ground.phase }, { on := 11, ground := Ground.phase }, { on := 12, ground := Ground.phase }, { on := 13, ground := Ground.phase }], guard := none }) (v := (.pointer (some ⟨c, 1, none⟩))) rfl (by kernel_rfl) (fun _ _ _ h => h) (Or.inl ⟨by rfl, ?_⟩) (KC.out) ?_
    · intro w hSw
      (try dsimp only at hSw)
      go_simp
    simp only [Act.put, List.setIfInBounds_toArray, List.set_cons_zero, List.set_cons_succ]
    refine wpAnyT_one (i := 16) (o := { dst := none, op := Op.store 23 (Operand.tmp 73) (Operand.tmp 71), type := 0, pos := "cutter.go:51", after := #[{ on := 15, ground := Ground.data }, { on := 13, ground := Ground.data }, { on := 13, ground := Ground.chain }, { on := 0, ground := Ground.phase }, { on := 1, ground := Ground.phase }, { on := 2, ground := Ground.phase }, { on := 3, ground := Ground.phase }, { on := 4, ground := Ground.phase }, { on := 5, ground := Ground.phase }, { on := 6, ground := Ground.phase }, { on := 7, ground := Ground.phase }, { on := 8, ground := Ground.phase }, { on := 9, ground := Ground.phase }, { on := 10, ground := Ground.phase }, { on := 11, ground := Ground.phase }, { on := 12, ground := Ground.phase }, { on := 13, ground := Ground.phase }], guard := none }) (by kernel_rfl) rfl (fun K hK => ?_)
    have h0 := HC9.out.at (i := 1) rfl
    have h1 := HC9.out.fz 1
    go_simp
    clear h0 h1
    obtain ⟨V25, hW⟩ : ∃ V25, w24.setCell ⟨c, 1, none⟩ (.slice a9 m9 cap9) = V25 := ⟨_, rfl⟩
    have CF : Hid (Cu V25 c s (.slice a9 m9 cap9) col 0 bb rc false ft) := hid (by rw [← hW]; exact HC9.out.set 1 _)
    have TF : Hid (Toks B V25 (.slice a9 m9 cap9) (L ++ [⟨3, x, (col : Int)⟩])) := hid (by rw [← hW]; exact HT9.out.set hcB)
    have BF : Hid (Bc c B w V25) := hid (by rw [← hW]; exact HB9.out.set 1 _)
    rw [hW]
    clear hW
    refine hK.out _ _ (fun h => absurd h (by decide)) ?_
    clear hK
    try simp only [Act.put]
    refine wpAnyT_done (by kernel_rfl) ?_ _
    (try dsimp only)
    clear HC1 HT1 HC9 HT9 HB9 GB k1 k2
    go_wp2
    go_ret
    exact ⟨BF.out, .inr (.inr (.inr (.inr (.inr ⟨rfl, rfl, _, CF.out, by rw [HX.out]; exact TF.out⟩))))⟩
end Go.Proofs.YtdfnehngffajiabDoor
