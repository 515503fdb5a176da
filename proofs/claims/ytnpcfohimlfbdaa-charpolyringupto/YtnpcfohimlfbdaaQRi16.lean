/-
  Ri16: the law's ring.
-/
import Derived.Test.YtnpcfohimlfbdaaQSr16ToGs16
namespace Go.Proofs.Ytnpcfohimlfbdaa
open Go.RowKit
set_option linter.unusedVariables false
set_option linter.unusedSimpArgs false

theorem cmpSame {w : World} {v u : Value} {z y : Int} {k l : Nat} (h : Zi w v z k) (h' : Zi w u y l) (e : z = y) : Calls Try.prog 16 #[v, u] w fun e w' => e = .returned (.int .i64 0) ∧ Below w.heap.size w w' := by
  subst e
  have := cmp_z h h'
  rwa [cmpI_self] at this
theorem sign0 {w : World} {v : Value} {z : Int} {k : Nat} (h : Zi w v z k) (e : z = 0) : Calls Try.prog 17 #[v] w fun e w' => e = .returned (.int .i64 0) ∧ Below w.heap.size w w' := by
  subst e
  have := sign_z h
  rwa [cmpI_self] at this
set_option maxHeartbeats 12800000 in
set_option maxRecDepth 100000 in
theorem ring16 {w : World} {a0 a1 a2 : Option Addr} {l0 l1 l2 c0 c1 c2 k : Nat} {ps qs rs : List Int} (hp : Zl w (.slice a0 l0 c0) ps k) (hq : Zl w (.slice a1 l1 c1) qs k) (hr : Zl w (.slice a2 l2 c2) rs k) (hk : k ≤ 1048576) (hl : ps.length + qs.length + rs.length ≤ 1048571) :
    Calls Try.prog 5 #[.slice a0 l0 c0, .slice a1 l1 c1, .slice a2 l2 c2] w (SaysB w true) := by
  obtain ⟨_, _, e1, -, -, hf0⟩ := hp.form9
  simp only [Value.slice.injEq] at e1
  obtain ⟨rfl, hL0, rfl⟩ := e1
  have F0 := hid hf0
  have HL0 := hid hL0.symm
  have P := hid hp
  have Q := hid hq
  have R := hid hr
  have HK := hid hk
  have HLS := hid hl
  have hl0 : l0 ≤ 1048576 := by omega
  have G : Hid (Below w.heap.size w w) := Below.refl _ _
  clear hp hq hr hk hl hf0 hL0
  go_enter Try.func5, Try.ntmps5
  go_wp2_with fail
  refine (trimS P.out).mono ?_
  rintro e w1 ⟨aT, lT, cT, rfl, ET, zT, b⟩
  replace P := hid (P.out.now b)
  replace Q := hid (Q.out.now b)
  replace R := hid (R.out.now b)
  replace G := hid (below_step G.out b)
  have T := hid zT
  clear zT
  clear b
  go_wp2_with fail
  refine (trimS Q.out).mono ?_
  rintro e w2 ⟨aS, lS, cS, rfl, ES, zS, b⟩
  replace P := hid (P.out.now b)
  replace Q := hid (Q.out.now b)
  replace R := hid (R.out.now b)
  replace T := hid (T.out.now b)
  replace G := hid (below_step G.out b)
  have S := hid zS
  clear zS
  clear b
  go_wp2_with fail
  refine (mulS P.out Q.out (by have := HK.out; omega) (by have := HLS.out; omega)).mono ?_
  rintro e w3 ⟨aPQ, lPQ, cPQ, rfl, EPQ, zPQ, b⟩
  replace P := hid (P.out.now b)
  replace Q := hid (Q.out.now b)
  replace R := hid (R.out.now b)
  replace T := hid (T.out.now b)
  replace S := hid (S.out.now b)
  replace G := hid (below_step G.out b)
  have PQ := hid zPQ
  clear zPQ
  clear b
  go_wp2_with fail
  refine (addS P.out Q.out (Nat.le_refl _) (Nat.le_refl _) (by have := HK.out; omega)).mono ?_
  rintro e w4 ⟨aU, lU, cU, rfl, EU, zU, b⟩
  replace P := hid (P.out.now b)
  replace Q := hid (Q.out.now b)
  replace R := hid (R.out.now b)
  replace T := hid (T.out.now b)
  replace S := hid (S.out.now b)
  replace PQ := hid (PQ.out.now b)
  replace G := hid (below_step G.out b)
  have U := hid zU
  clear zU
  clear b
  go_wp2_with fail
  refine (trimmedT T.out (trm_tr _)).mono ?_
  rintro e w5 ⟨rfl, b⟩
  replace P := hid (P.out.now b)
  replace Q := hid (Q.out.now b)
  replace R := hid (R.out.now b)
  replace T := hid (T.out.now b)
  replace S := hid (S.out.now b)
  replace PQ := hid (PQ.out.now b)
  replace U := hid (U.out.now b)
  replace G := hid (below_step G.out b)
  clear b
  go_wp2_with fail
  refine (trimmedT PQ.out (trm_mulQ _ _)).mono ?_
  rintro e w6 ⟨rfl, b⟩
  replace P := hid (P.out.now b)
  replace Q := hid (Q.out.now b)
  replace R := hid (R.out.now b)
  replace T := hid (T.out.now b)
  replace S := hid (S.out.now b)
  replace PQ := hid (PQ.out.now b)
  replace U := hid (U.out.now b)
  replace G := hid (below_step G.out b)
  clear b
  have hlt0 : lT ≤ l0 := by have := tr_le ps; have := ET.out; have := HL0.out; omega
  have hle : ¬ ((l0 : Int) < (lT : Int)) := by omega
  have hleN : ¬ (l0 < lT) := by omega
  have hleD : decide (l0 < lT) = false := by simp; omega
  go_wp2_with fail
  refine (trimmedT U.out (trm_adQ _ _)).mono ?_
  rintro e w7 ⟨rfl, b⟩
  replace P := hid (P.out.now b)
  replace Q := hid (Q.out.now b)
  replace R := hid (R.out.now b)
  replace T := hid (T.out.now b)
  replace S := hid (S.out.now b)
  replace PQ := hid (PQ.out.now b)
  replace U := hid (U.out.now b)
  replace G := hid (below_step G.out b)
  clear b
  have H0 : Hid (SrH w7 l0 l0 (.int .i64 0) w7) := ⟨0, rfl, Nat.zero_le _, by omega, Below.refl _ _⟩
  go_wp2_with fail
  go_loopg [11] l0 (fun gk s11 wx => SrH w7 l0 gk s11 wx)
  case atStart => exact H0.out
  case round =>
    clear H0
    obtain ⟨i, rfl, hin, hg, hB⟩ := hrel
    have B := hid hB
    have HG := hid hg
    clear hB hg
    by_cases hlt : i < l0
    · have hlt' : (i : Int) < (l0 : Int) := by omega
      have hi : i < ps.length := by rw [HL0.out]; exact hlt
      have hwi := wrapI9 (i := i) (by omega)
      obtain ⟨b1, o1, rfl⟩ := F0.out (fun e => by rw [e] at hi; simp at hi)
      obtain ⟨nf, xf, adf, qf, k0, k1, zf⟩ := (P.out.now B.out).at9 (i := i) hi
      rw [← cf_lt hi] at zf
      obtain ⟨lf, hlf⟩ : ∃ lf, xf.length = lf := ⟨_, rfl⟩
      rw [hlf] at k1 zf
      have ZF := hid zf
      have HMM : Hid (l0 - (i + 1) < gk) := by unfold Hid; rw [HG.out]; omega
      clear zf hlf HG
      by_cases hit : i < lT
      · have hit' : (i : Int) < (lT : Int) := by omega
        have hig : ¬ ((lT : Int) ≤ (i : Int)) := by omega
        have hi2 : i < (tr ps).length := by rw [ET.out]; exact hit
        obtain ⟨aT', cT', e1, hfT⟩ := T.out.full
        simp only [Value.slice.injEq] at e1
        obtain ⟨rfl, -, rfl⟩ := e1
        obtain ⟨b2, o2, rfl⟩ := hfT (fun e => by rw [e] at hi2; simp at hi2)
        obtain ⟨ng, xg, adg, qg, j0, j1, zg⟩ := (T.out.now B.out).at16 hi2
        rw [cf_tr] at zg
        obtain ⟨lg, hlg⟩ : ∃ lg, xg.length = lg := ⟨_, rfl⟩
        rw [hlg] at j1 zg
        have ZG := hid zg
        clear zg hlg hfT
        go_upto_region 10 with fail
        have KB : Hid (∀ w', Below wr.heap.size wr w' → w'.cell? ⟨b2, o2 + i * 2, none⟩ = some (.bool ng) ∧ w'.cell? ⟨b2, o2 + i * 2 + 1, none⟩ = some (.slice adg lg qg) ∧ w'.cell? ⟨b1, o1 + i * 2, none⟩ = some (.bool nf) ∧ w'.cell? ⟨b1, o1 + i * 2 + 1, none⟩ = some (.slice adf lf qf)) := fun w' h => ⟨cnow h j0, cnow h j1, cnow h k0, cnow h k1⟩
        refine wp_region_tail (fun w' => w'.cell? ⟨b2, o2 + i * 2, none⟩ = some (.bool ng) ∧ w'.cell? ⟨b2, o2 + i * 2 + 1, none⟩ = some (.slice adg lg qg) ∧ w'.cell? ⟨b1, o1 + i * 2, none⟩ = some (.bool nf) ∧ w'.cell? ⟨b1, o1 + i * 2 + 1, none⟩ = some (.slice adf lf qf)) 29 (by kernel_rfl) ?_
        obtain ⟨D61, hD⟩ : ∃ D61, wr.drew = D61 := ⟨_, rfl⟩
        have GB : Hid (Below wr.heap.size wr D61) := by unfold Hid; rw [← hD]; exact (Below.refl _ _).drew
        rw [hD]
        clear hD
        refine wpAnyT_take (i := 0) (oi := { dst := some 50, op := Op.move (Operand.tmp 11), type := 3, pos := "outright.go:45", after := #[], guard := none }) (v := (.int .i64 (i : Int))) rfl (by kernel_rfl) (fun _ _ _ h => h) (Or.inl ⟨by rfl, ?_⟩) (KB.out _ GB.out) ?_
        · intro w hSw
          (try dsimp only at hSw)
          go_simp
        simp only [Act.put, List.setIfInBounds_toArray, List.set_cons_zero, List.set_cons_succ]
        refine wpAnyT_take (i := 1) (oi := { dst := some 51, op := Op.move (Operand.tmp 7), type := 22, pos := "outright.go:45", after := #[], guard := none }) (v := (.slice (some ⟨b2, o2, none⟩) lT cT)) rfl (by kernel_rfl) (fun _ _ _ h => h) (Or.inl ⟨by rfl, ?_⟩) (KB.out _ GB.out) ?_
        · intro w hSw
          (try dsimp only at hSw)
          go_simp
        simp only [Act.put, List.setIfInBounds_toArray, List.set_cons_zero, List.set_cons_succ]
        refine wpAnyT_take (i := 2) (oi := { dst := some 52, op := Op.call { callee := Callee.builtin Builtin.len, args := #[Operand.tmp 51], argTypes := #[22] }, type := 3, pos := "outright.go:45", after := #[{ on := 1, ground := Ground.data }], guard := none }) (v := (.int .i64 (lT : Int))) rfl (by kernel_rfl) (fun _ _ _ h => h) (Or.inl ⟨by rfl, ?_⟩) (KB.out _ GB.out) ?_
        · intro w hSw
          (try dsimp only at hSw)
          go_simp
        simp only [Act.put, List.setIfInBounds_toArray, List.set_cons_zero, List.set_cons_succ]
        refine wpAnyT_take (i := 3) (oi := { dst := some 53, op := Op.binOp BinOp.lss 3 (Operand.tmp 50) (Operand.tmp 52) 3, type := 4, pos := "outright.go:45", after := #[{ on := 0, ground := Ground.data }, { on := 2, ground := Ground.data }], guard := none }) (v := (.bool true)) rfl (by kernel_rfl) (fun _ _ _ h => h) (Or.inl ⟨by rfl, ?_⟩) (KB.out _ GB.out) ?_
        · intro w hSw
          (try dsimp only at hSw)
          go_simp
        simp only [Act.put, List.setIfInBounds_toArray, List.set_cons_zero, List.set_cons_succ]
        refine wpAnyT_take (i := 4) (oi := { dst := some 54, op := Op.move (Operand.tmp 53), type := 4, pos := "outright.go:45", after := #[{ on := 3, ground := Ground.data }], guard := none }) (v := (.bool true)) rfl (by kernel_rfl) (fun _ _ _ h => h) (Or.inl ⟨by rfl, ?_⟩) (KB.out _ GB.out) ?_
        · intro w hSw
          (try dsimp only at hSw)
          go_simp
        simp only [Act.put, List.setIfInBounds_toArray, List.set_cons_zero, List.set_cons_succ]
        refine wpAnyT_take (i := 5) (oi := { dst := some 55, op := Op.move (Operand.tmp 7), type := 22, pos := "outright.go:45", after := #[{ on := 4, ground := Ground.guard }], guard := some (4, true) }) (v := (.slice (some ⟨b2, o2, none⟩) lT cT)) rfl (by kernel_rfl) (fun _ _ _ h => h) (Or.inl ⟨by rfl, ?_⟩) (KB.out _ GB.out) ?_
        · intro w hSw
          (try dsimp only at hSw)
          go_simp
        simp only [Act.put, List.setIfInBounds_toArray, List.set_cons_zero, List.set_cons_succ]
        refine wpAnyT_take (i := 6) (oi := { dst := some 56, op := Op.move (Operand.tmp 11), type := 3, pos := "outright.go:45", after := #[{ on := 4, ground := Ground.guard }], guard := some (4, true) }) (v := (.int .i64 (i : Int))) rfl (by kernel_rfl) (fun _ _ _ h => h) (Or.inl ⟨by rfl, ?_⟩) (KB.out _ GB.out) ?_
        · intro w hSw
          (try dsimp only at hSw)
          go_simp
        simp only [Act.put, List.setIfInBounds_toArray, List.set_cons_zero, List.set_cons_succ]
        refine wpAnyT_take (i := 7) (oi := { dst := some 57, op := Op.indexAddr 22 (Operand.tmp 55) (Operand.tmp 56), type := 0, pos := "outright.go:45", after := #[{ on := 5, ground := Ground.data }, { on := 6, ground := Ground.data }, { on := 4, ground := Ground.guard }], guard := some (4, true) }) (v := (.pointer (some ⟨b2, o2 + i * 2, none⟩))) rfl (by kernel_rfl) (fun _ _ _ h => h) (Or.inl ⟨by rfl, ?_⟩) (KB.out _ GB.out) ?_
        · intro w hSw
          (try dsimp only at hSw)
          go_simp
        simp only [Act.put, List.setIfInBounds_toArray, List.set_cons_zero, List.set_cons_succ]
        refine wpAnyT_take (i := 8) (oi := { dst := some 58, op := Op.load 25 (Operand.tmp 57), type := 25, pos := "outright.go:45", after := #[{ on := 7, ground := Ground.data }, { on := 4, ground := Ground.guard }], guard := some (4, true) }) (v := (.agg #[.bool ng, .slice adg lg qg])) rfl (by kernel_rfl) (fun _ _ _ h => h) (Or.inl ⟨by rfl, ?_⟩) (KB.out _ GB.out) ?_
        · intro w hSw
          (try dsimp only at hSw)
          go_simp
        simp only [Act.put, List.setIfInBounds_toArray, List.set_cons_zero, List.set_cons_succ]
        refine wpAnyT_take (i := 9) (oi := { dst := some 59, op := Op.move (Operand.tmp 0), type := 22, pos := "outright.go:45", after := #[{ on := 4, ground := Ground.guard }], guard := some (4, true) }) (v := (.slice (some ⟨b1, o1, none⟩) l0 c0)) rfl (by kernel_rfl) (fun _ _ _ h => h) (Or.inl ⟨by rfl, ?_⟩) (KB.out _ GB.out) ?_
        · intro w hSw
          (try dsimp only at hSw)
          go_simp
        simp only [Act.put, List.setIfInBounds_toArray, List.set_cons_zero, List.set_cons_succ]
        refine wpAnyT_take (i := 10) (oi := { dst := some 60, op := Op.move (Operand.tmp 11), type := 3, pos := "outright.go:45", after := #[{ on := 4, ground := Ground.guard }], guard := some (4, true) }) (v := (.int .i64 (i : Int))) rfl (by kernel_rfl) (fun _ _ _ h => h) (Or.inl ⟨by rfl, ?_⟩) (KB.out _ GB.out) ?_
        · intro w hSw
          (try dsimp only at hSw)
          go_simp
        simp only [Act.put, List.setIfInBounds_toArray, List.set_cons_zero, List.set_cons_succ]
        refine wpAnyT_take (i := 11) (oi := { dst := some 61, op := Op.indexAddr 22 (Operand.tmp 59) (Operand.tmp 60), type := 0, pos := "outright.go:45", after := #[{ on := 9, ground := Ground.data }, { on := 10, ground := Ground.data }, { on := 4, ground := Ground.guard }], guard := some (4, true) }) (v := (.pointer (some ⟨b1, o1 + i * 2, none⟩))) rfl (by kernel_rfl) (fun _ _ _ h => h) (Or.inl ⟨by rfl, ?_⟩) (KB.out _ GB.out) ?_
        · intro w hSw
          (try dsimp only at hSw)
          go_simp
        simp only [Act.put, List.setIfInBounds_toArray, List.set_cons_zero, List.set_cons_succ]
        refine wpAnyT_take (i := 12) (oi := { dst := some 62, op := Op.load 25 (Operand.tmp 61), type := 25, pos := "outright.go:45", after := #[{ on := 11, ground := Ground.data }, { on := 4, ground := Ground.guard }], guard := some (4, true) }) (v := (.agg #[.bool nf, .slice adf lf qf])) rfl (by kernel_rfl) (fun _ _ _ h => h) (Or.inl ⟨by rfl, ?_⟩) (KB.out _ GB.out) ?_
        · intro w hSw
          (try dsimp only at hSw)
          go_simp
        simp only [Act.put, List.setIfInBounds_toArray, List.set_cons_zero, List.set_cons_succ]
        refine wpAnyT_one (i := 13) (o := { dst := some 63, op := Op.call { callee := Callee.value (Operand.func 16), args := #[Operand.tmp 58, Operand.tmp 62], argTypes := #[25, 25] }, type := 3, pos := "outright.go:45", after := #[{ on := 8, ground := Ground.data }, { on := 12, ground := Ground.data }, { on := 4, ground := Ground.chain }, { on := 4, ground := Ground.guard }], guard := some (4, true) }) (by kernel_rfl) rfl (fun K hK => ?_)
        go_simp
        go_at_call 16
        refine (cmpSame (ZG.out.zi.now GB.out) (ZF.out.now GB.out) rfl).mono ?_
        rintro e w62 ⟨rfl, b⟩
        have lz62 := (show Below _ _ _ from b).size
        replace GB := hid (below_step GB.out b)
        clear b
        refine hK.out _ _ (fun _ => KB.out _ GB.out) ?_
        clear hK
        refine wpAnyT_take (i := 14) (oi := { dst := some 64, op := Op.binOp BinOp.neq 3 (Operand.tmp 63) (Operand.const (Value.int IntKind.i64 0)) 3, type := 4, pos := "outright.go:45", after := #[{ on := 13, ground := Ground.data }, { on := 4, ground := Ground.guard }], guard := some (4, true) }) (v := (.bool false)) rfl (by kernel_rfl) (fun _ _ _ h => h) (Or.inl ⟨by rfl, ?_⟩) (KB.out _ GB.out) ?_
        · intro w hSw
          (try dsimp only at hSw)
          go_simp
        simp only [Act.put, List.setIfInBounds_toArray, List.set_cons_zero, List.set_cons_succ]
        refine wpAnyT_take (i := 15) (oi := { dst := some 65, op := Op.pick (Operand.tmp 54) (Operand.tmp 64) (Operand.const (Value.bool false)), type := 4, pos := "outright.go:45", after := #[{ on := 4, ground := Ground.data }, { on := 14, ground := Ground.data }], guard := none }) (v := (.bool false)) rfl (by kernel_rfl) (fun _ _ _ h => h) (Or.inl ⟨by rfl, ?_⟩) (KB.out _ GB.out) ?_
        · intro w hSw
          (try dsimp only at hSw)
          go_simp
        simp only [Act.put, List.setIfInBounds_toArray, List.set_cons_zero, List.set_cons_succ]
        refine wpAnyT_take (i := 16) (oi := { dst := some 66, op := Op.move (Operand.tmp 65), type := 4, pos := "outright.go:45", after := #[{ on := 15, ground := Ground.data }, { on := 13, ground := Ground.chain }], guard := none }) (v := (.bool false)) rfl (by kernel_rfl) (fun _ _ _ h => h) (Or.inl ⟨by rfl, ?_⟩) (KB.out _ GB.out) ?_
        · intro w hSw
          (try dsimp only at hSw)
          go_simp
        simp only [Act.put, List.setIfInBounds_toArray, List.set_cons_zero, List.set_cons_succ]
        refine wpAnyT_take (i := 17) (oi := { dst := some 67, op := Op.move (Operand.tmp 11), type := 3, pos := "outright.go:45", after := #[{ on := 16, ground := Ground.guard }], guard := some (16, false) }) (v := (.int .i64 (i : Int))) rfl (by kernel_rfl) (fun _ _ _ h => h) (Or.inl ⟨by rfl, ?_⟩) (KB.out _ GB.out) ?_
        · intro w hSw
          (try dsimp only at hSw)
          go_simp
        simp only [Act.put, List.setIfInBounds_toArray, List.set_cons_zero, List.set_cons_succ]
        refine wpAnyT_take (i := 18) (oi := { dst := some 68, op := Op.move (Operand.tmp 7), type := 22, pos := "outright.go:45", after := #[{ on := 16, ground := Ground.guard }], guard := some (16, false) }) (v := (.slice (some ⟨b2, o2, none⟩) lT cT)) rfl (by kernel_rfl) (fun _ _ _ h => h) (Or.inl ⟨by rfl, ?_⟩) (KB.out _ GB.out) ?_
        · intro w hSw
          (try dsimp only at hSw)
          go_simp
        simp only [Act.put, List.setIfInBounds_toArray, List.set_cons_zero, List.set_cons_succ]
        refine wpAnyT_take (i := 19) (oi := { dst := some 69, op := Op.call { callee := Callee.builtin Builtin.len, args := #[Operand.tmp 68], argTypes := #[22] }, type := 3, pos := "outright.go:45", after := #[{ on := 18, ground := Ground.data }, { on := 16, ground := Ground.guard }], guard := some (16, false) }) (v := (.int .i64 (lT : Int))) rfl (by kernel_rfl) (fun _ _ _ h => h) (Or.inl ⟨by rfl, ?_⟩) (KB.out _ GB.out) ?_
        · intro w hSw
          (try dsimp only at hSw)
          go_simp
        simp only [Act.put, List.setIfInBounds_toArray, List.set_cons_zero, List.set_cons_succ]
        refine wpAnyT_take (i := 20) (oi := { dst := some 70, op := Op.binOp BinOp.geq 3 (Operand.tmp 67) (Operand.tmp 69) 3, type := 4, pos := "outright.go:45", after := #[{ on := 17, ground := Ground.data }, { on := 19, ground := Ground.data }, { on := 16, ground := Ground.guard }], guard := some (16, false) }) (v := (.bool false)) rfl (by kernel_rfl) (fun _ _ _ h => h) (Or.inl ⟨by rfl, ?_⟩) (KB.out _ GB.out) ?_
        · intro w hSw
          (try dsimp only at hSw)
          go_simp
        simp only [Act.put, List.setIfInBounds_toArray, List.set_cons_zero, List.set_cons_succ]
        refine wpAnyT_take (i := 21) (oi := { dst := some 71, op := Op.move (Operand.tmp 70), type := 4, pos := "outright.go:45", after := #[{ on := 20, ground := Ground.data }, { on := 16, ground := Ground.chain }, { on := 16, ground := Ground.guard }], guard := some (16, false) }) (v := (.bool false)) rfl (by kernel_rfl) (fun _ _ _ h => h) (Or.inl ⟨by rfl, ?_⟩) (KB.out _ GB.out) ?_
        · intro w hSw
          (try dsimp only at hSw)
          go_simp
        simp only [Act.put, List.setIfInBounds_toArray, List.set_cons_zero, List.set_cons_succ]
        refine wpAnyT_take (i := 22) (oi := { dst := some 72, op := Op.move (Operand.tmp 0), type := 22, pos := "outright.go:45", after := #[{ on := 21, ground := Ground.guard }], guard := some (21, true) }) (v := undef) rfl (by kernel_rfl) (fun _ _ _ h => h) (Or.inr ⟨by rfl, rfl⟩) (KB.out _ GB.out) ?_
        simp only [Act.put, List.setIfInBounds_toArray, List.set_cons_zero, List.set_cons_succ]
        refine wpAnyT_take (i := 23) (oi := { dst := some 73, op := Op.move (Operand.tmp 11), type := 3, pos := "outright.go:45", after := #[{ on := 21, ground := Ground.guard }], guard := some (21, true) }) (v := undef) rfl (by kernel_rfl) (fun _ _ _ h => h) (Or.inr ⟨by rfl, rfl⟩) (KB.out _ GB.out) ?_
        simp only [Act.put, List.setIfInBounds_toArray, List.set_cons_zero, List.set_cons_succ]
        refine wpAnyT_take (i := 24) (oi := { dst := some 74, op := Op.indexAddr 22 (Operand.tmp 72) (Operand.tmp 73), type := 0, pos := "outright.go:45", after := #[{ on := 22, ground := Ground.data }, { on := 23, ground := Ground.data }, { on := 21, ground := Ground.guard }], guard := some (21, true) }) (v := undef) rfl (by kernel_rfl) (fun _ _ _ h => h) (Or.inr ⟨by rfl, rfl⟩) (KB.out _ GB.out) ?_
        simp only [Act.put, List.setIfInBounds_toArray, List.set_cons_zero, List.set_cons_succ]
        refine wpAnyT_take (i := 25) (oi := { dst := some 75, op := Op.load 25 (Operand.tmp 74), type := 25, pos := "outright.go:45", after := #[{ on := 24, ground := Ground.data }, { on := 21, ground := Ground.guard }], guard := some (21, true) }) (v := undef) rfl (by kernel_rfl) (fun _ _ _ h => h) (Or.inr ⟨by rfl, rfl⟩) (KB.out _ GB.out) ?_
        simp only [Act.put, List.setIfInBounds_toArray, List.set_cons_zero, List.set_cons_succ]
        refine wpAnyT_take (i := 26) (oi := { dst := some 76, op := Op.call { callee := Callee.value (Operand.func 17), args := #[Operand.tmp 75], argTypes := #[25] }, type := 3, pos := "outright.go:45", after := #[{ on := 25, ground := Ground.data }, { on := 21, ground := Ground.chain }, { on := 21, ground := Ground.guard }], guard := some (21, true) }) (v := undef) rfl (by kernel_rfl) (fun _ _ _ h => h) (Or.inr ⟨by rfl, rfl⟩) (KB.out _ GB.out) ?_
        simp only [Act.put, List.setIfInBounds_toArray, List.set_cons_zero, List.set_cons_succ]
        refine wpAnyT_take (i := 27) (oi := { dst := some 77, op := Op.binOp BinOp.neq 3 (Operand.tmp 76) (Operand.const (Value.int IntKind.i64 0)) 3, type := 4, pos := "outright.go:45", after := #[{ on := 26, ground := Ground.data }, { on := 21, ground := Ground.guard }], guard := some (21, true) }) (v := undef) rfl (by kernel_rfl) (fun _ _ _ h => h) (Or.inr ⟨by rfl, rfl⟩) (KB.out _ GB.out) ?_
        simp only [Act.put, List.setIfInBounds_toArray, List.set_cons_zero, List.set_cons_succ]
        refine wpAnyT_take (i := 28) (oi := { dst := some 78, op := Op.pick (Operand.tmp 71) (Operand.tmp 77) (Operand.const (Value.bool false)), type := 4, pos := "outright.go:45", after := #[{ on := 21, ground := Ground.data }, { on := 27, ground := Ground.data }, { on := 16, ground := Ground.guard }], guard := some (16, false) }) (v := (.bool false)) rfl (by kernel_rfl) (fun _ _ _ h => h) (Or.inl ⟨by rfl, ?_⟩) (KB.out _ GB.out) ?_
        · intro w hSw
          (try dsimp only at hSw)
          go_simp
        simp only [Act.put, List.setIfInBounds_toArray, List.set_cons_zero, List.set_cons_succ]
        refine wpAnyT_one (i := 29) (o := { dst := some 79, op := Op.pick (Operand.tmp 66) (Operand.const (Value.bool true)) (Operand.tmp 78), type := 4, pos := "outright.go:45", after := #[{ on := 16, ground := Ground.data }, { on := 28, ground := Ground.data }], guard := none }) (by kernel_rfl) rfl (fun K hK => ?_)
        go_simp
        refine hK.out _ _ (fun h => absurd h (by decide)) ?_
        clear hK
        try simp only [Act.put]
        refine wpAnyT_done (by kernel_rfl) ?_ _
        have HN1 : Hid (SrH w7 l0 (l0 - (i + 1)) (.int .i64 ((i + 1 : Nat) : Int)) w62) := ⟨i + 1, rfl, by omega, rfl, below_step B.out GB.out⟩
        clear B GB KB ZF
        go_wp2_with fail
        go_roundg (l0 - (i + 1))
        case rel => exact HN1.out
        case measure => exact HMM.out
      · have hit' : ¬ ((i : Int) < (lT : Int)) := by omega
        have hig : (lT : Int) ≤ (i : Int) := by omega
        have HZ0 : Hid (cf ps i = 0) := by unfold Hid; rw [← cf_tr, cf_ge (by rw [ET.out]; omega)]
        go_upto_region 10 with fail
        have KB : Hid (∀ w', Below wr.heap.size wr w' → w'.cell? ⟨b1, o1 + i * 2, none⟩ = some (.bool nf) ∧ w'.cell? ⟨b1, o1 + i * 2 + 1, none⟩ = some (.slice adf lf qf)) := fun w' h => ⟨cnow h k0, cnow h k1⟩
        refine wp_region_tail (fun w' => w'.cell? ⟨b1, o1 + i * 2, none⟩ = some (.bool nf) ∧ w'.cell? ⟨b1, o1 + i * 2 + 1, none⟩ = some (.slice adf lf qf)) 29 (by kernel_rfl) ?_
        obtain ⟨D61, hD⟩ : ∃ D61, wr.drew = D61 := ⟨_, rfl⟩
        have GB : Hid (Below wr.heap.size wr D61) := by unfold Hid; rw [← hD]; exact (Below.refl _ _).drew
        rw [hD]
        clear hD
        refine wpAnyT_take (i := 0) (oi := { dst := some 50, op := Op.move (Operand.tmp 11), type := 3, pos := "outright.go:45", after := #[], guard := none }) (v := (.int .i64 (i : Int))) rfl (by kernel_rfl) (fun _ _ _ h => h) (Or.inl ⟨by rfl, ?_⟩) (KB.out _ GB.out) ?_
        · intro w hSw
          (try dsimp only at hSw)
          go_simp
        simp only [Act.put, List.setIfInBounds_toArray, List.set_cons_zero, List.set_cons_succ]
        refine wpAnyT_take (i := 1) (oi := { dst := some 51, op := Op.move (Operand.tmp 7), type := 22, pos := "outright.go:45", after := #[], guard := none }) (v := (.slice aT lT cT)) rfl (by kernel_rfl) (fun _ _ _ h => h) (Or.inl ⟨by rfl, ?_⟩) (KB.out _ GB.out) ?_
        · intro w hSw
          (try dsimp only at hSw)
          go_simp
        simp only [Act.put, List.setIfInBounds_toArray, List.set_cons_zero, List.set_cons_succ]
        refine wpAnyT_take (i := 2) (oi := { dst := some 52, op := Op.call { callee := Callee.builtin Builtin.len, args := #[Operand.tmp 51], argTypes := #[22] }, type := 3, pos := "outright.go:45", after := #[{ on := 1, ground := Ground.data }], guard := none }) (v := (.int .i64 (lT : Int))) rfl (by kernel_rfl) (fun _ _ _ h => h) (Or.inl ⟨by rfl, ?_⟩) (KB.out _ GB.out) ?_
        · intro w hSw
          (try dsimp only at hSw)
          go_simp
        simp only [Act.put, List.setIfInBounds_toArray, List.set_cons_zero, List.set_cons_succ]
        refine wpAnyT_take (i := 3) (oi := { dst := some 53, op := Op.binOp BinOp.lss 3 (Operand.tmp 50) (Operand.tmp 52) 3, type := 4, pos := "outright.go:45", after := #[{ on := 0, ground := Ground.data }, { on := 2, ground := Ground.data }], guard := none }) (v := (.bool false)) rfl (by kernel_rfl) (fun _ _ _ h => h) (Or.inl ⟨by rfl, ?_⟩) (KB.out _ GB.out) ?_
        · intro w hSw
          (try dsimp only at hSw)
          go_simp
        simp only [Act.put, List.setIfInBounds_toArray, List.set_cons_zero, List.set_cons_succ]
        refine wpAnyT_take (i := 4) (oi := { dst := some 54, op := Op.move (Operand.tmp 53), type := 4, pos := "outright.go:45", after := #[{ on := 3, ground := Ground.data }], guard := none }) (v := (.bool false)) rfl (by kernel_rfl) (fun _ _ _ h => h) (Or.inl ⟨by rfl, ?_⟩) (KB.out _ GB.out) ?_
        · intro w hSw
          (try dsimp only at hSw)
          go_simp
        simp only [Act.put, List.setIfInBounds_toArray, List.set_cons_zero, List.set_cons_succ]
        refine wpAnyT_take (i := 5) (oi := { dst := some 55, op := Op.move (Operand.tmp 7), type := 22, pos := "outright.go:45", after := #[{ on := 4, ground := Ground.guard }], guard := some (4, true) }) (v := undef) rfl (by kernel_rfl) (fun _ _ _ h => h) (Or.inr ⟨by rfl, rfl⟩) (KB.out _ GB.out) ?_
        simp only [Act.put, List.setIfInBounds_toArray, List.set_cons_zero, List.set_cons_succ]
        refine wpAnyT_take (i := 6) (oi := { dst := some 56, op := Op.move (Operand.tmp 11), type := 3, pos := "outright.go:45", after := #[{ on := 4, ground := Ground.guard }], guard := some (4, true) }) (v := undef) rfl (by kernel_rfl) (fun _ _ _ h => h) (Or.inr ⟨by rfl, rfl⟩) (KB.out _ GB.out) ?_
        simp only [Act.put, List.setIfInBounds_toArray, List.set_cons_zero, List.set_cons_succ]
        refine wpAnyT_take (i := 7) (oi := { dst := some 57, op := Op.indexAddr 22 (Operand.tmp 55) (Operand.tmp 56), type := 0, pos := "outright.go:45", after := #[{ on := 5, ground := Ground.data }, { on := 6, ground := Ground.data }, { on := 4, ground := Ground.guard }], guard := some (4, true) }) (v := undef) rfl (by kernel_rfl) (fun _ _ _ h => h) (Or.inr ⟨by rfl, rfl⟩) (KB.out _ GB.out) ?_
        simp only [Act.put, List.setIfInBounds_toArray, List.set_cons_zero, List.set_cons_succ]
        refine wpAnyT_take (i := 8) (oi := { dst := some 58, op := Op.load 25 (Operand.tmp 57), type := 25, pos := "outright.go:45", after := #[{ on := 7, ground := Ground.data }, { on := 4, ground := Ground.guard }], guard := some (4, true) }) (v := undef) rfl (by kernel_rfl) (fun _ _ _ h => h) (Or.inr ⟨by rfl, rfl⟩) (KB.out _ GB.out) ?_
        simp only [Act.put, List.setIfInBounds_toArray, List.set_cons_zero, List.set_cons_succ]
        refine wpAnyT_take (i := 9) (oi := { dst := some 59, op := Op.move (Operand.tmp 0), type := 22, pos := "outright.go:45", after := #[{ on := 4, ground := Ground.guard }], guard := some (4, true) }) (v := undef) rfl (by kernel_rfl) (fun _ _ _ h => h) (Or.inr ⟨by rfl, rfl⟩) (KB.out _ GB.out) ?_
        simp only [Act.put, List.setIfInBounds_toArray, List.set_cons_zero, List.set_cons_succ]
        refine wpAnyT_take (i := 10) (oi := { dst := some 60, op := Op.move (Operand.tmp 11), type := 3, pos := "outright.go:45", after := #[{ on := 4, ground := Ground.guard }], guard := some (4, true) }) (v := undef) rfl (by kernel_rfl) (fun _ _ _ h => h) (Or.inr ⟨by rfl, rfl⟩) (KB.out _ GB.out) ?_
        simp only [Act.put, List.setIfInBounds_toArray, List.set_cons_zero, List.set_cons_succ]
        refine wpAnyT_take (i := 11) (oi := { dst := some 61, op := Op.indexAddr 22 (Operand.tmp 59) (Operand.tmp 60), type := 0, pos := "outright.go:45", after := #[{ on := 9, ground := Ground.data }, { on := 10, ground := Ground.data }, { on := 4, ground := Ground.guard }], guard := some (4, true) }) (v := undef) rfl (by kernel_rfl) (fun _ _ _ h => h) (Or.inr ⟨by rfl, rfl⟩) (KB.out _ GB.out) ?_
        simp only [Act.put, List.setIfInBounds_toArray, List.set_cons_zero, List.set_cons_succ]
        refine wpAnyT_take (i := 12) (oi := { dst := some 62, op := Op.load 25 (Operand.tmp 61), type := 25, pos := "outright.go:45", after := #[{ on := 11, ground := Ground.data }, { on := 4, ground := Ground.guard }], guard := some (4, true) }) (v := undef) rfl (by kernel_rfl) (fun _ _ _ h => h) (Or.inr ⟨by rfl, rfl⟩) (KB.out _ GB.out) ?_
        simp only [Act.put, List.setIfInBounds_toArray, List.set_cons_zero, List.set_cons_succ]
        refine wpAnyT_take (i := 13) (oi := { dst := some 63, op := Op.call { callee := Callee.value (Operand.func 16), args := #[Operand.tmp 58, Operand.tmp 62], argTypes := #[25, 25] }, type := 3, pos := "outright.go:45", after := #[{ on := 8, ground := Ground.data }, { on := 12, ground := Ground.data }, { on := 4, ground := Ground.chain }, { on := 4, ground := Ground.guard }], guard := some (4, true) }) (v := undef) rfl (by kernel_rfl) (fun _ _ _ h => h) (Or.inr ⟨by rfl, rfl⟩) (KB.out _ GB.out) ?_
        simp only [Act.put, List.setIfInBounds_toArray, List.set_cons_zero, List.set_cons_succ]
        refine wpAnyT_take (i := 14) (oi := { dst := some 64, op := Op.binOp BinOp.neq 3 (Operand.tmp 63) (Operand.const (Value.int IntKind.i64 0)) 3, type := 4, pos := "outright.go:45", after := #[{ on := 13, ground := Ground.data }, { on := 4, ground := Ground.guard }], guard := some (4, true) }) (v := undef) rfl (by kernel_rfl) (fun _ _ _ h => h) (Or.inr ⟨by rfl, rfl⟩) (KB.out _ GB.out) ?_
        simp only [Act.put, List.setIfInBounds_toArray, List.set_cons_zero, List.set_cons_succ]
        refine wpAnyT_take (i := 15) (oi := { dst := some 65, op := Op.pick (Operand.tmp 54) (Operand.tmp 64) (Operand.const (Value.bool false)), type := 4, pos := "outright.go:45", after := #[{ on := 4, ground := Ground.data }, { on := 14, ground := Ground.data }], guard := none }) (v := (.bool false)) rfl (by kernel_rfl) (fun _ _ _ h => h) (Or.inl ⟨by rfl, ?_⟩) (KB.out _ GB.out) ?_
        · intro w hSw
          (try dsimp only at hSw)
          go_simp
        simp only [Act.put, List.setIfInBounds_toArray, List.set_cons_zero, List.set_cons_succ]
        refine wpAnyT_take (i := 16) (oi := { dst := some 66, op := Op.move (Operand.tmp 65), type := 4, pos := "outright.go:45", after := #[{ on := 15, ground := Ground.data }, { on := 13, ground := Ground.chain }], guard := none }) (v := (.bool false)) rfl (by kernel_rfl) (fun _ _ _ h => h) (Or.inl ⟨by rfl, ?_⟩) (KB.out _ GB.out) ?_
        · intro w hSw
          (try dsimp only at hSw)
          go_simp
        simp only [Act.put, List.setIfInBounds_toArray, List.set_cons_zero, List.set_cons_succ]
        refine wpAnyT_take (i := 17) (oi := { dst := some 67, op := Op.move (Operand.tmp 11), type := 3, pos := "outright.go:45", after := #[{ on := 16, ground := Ground.guard }], guard := some (16, false) }) (v := (.int .i64 (i : Int))) rfl (by kernel_rfl) (fun _ _ _ h => h) (Or.inl ⟨by rfl, ?_⟩) (KB.out _ GB.out) ?_
        · intro w hSw
          (try dsimp only at hSw)
          go_simp
        simp only [Act.put, List.setIfInBounds_toArray, List.set_cons_zero, List.set_cons_succ]
        refine wpAnyT_take (i := 18) (oi := { dst := some 68, op := Op.move (Operand.tmp 7), type := 22, pos := "outright.go:45", after := #[{ on := 16, ground := Ground.guard }], guard := some (16, false) }) (v := (.slice aT lT cT)) rfl (by kernel_rfl) (fun _ _ _ h => h) (Or.inl ⟨by rfl, ?_⟩) (KB.out _ GB.out) ?_
        · intro w hSw
          (try dsimp only at hSw)
          go_simp
        simp only [Act.put, List.setIfInBounds_toArray, List.set_cons_zero, List.set_cons_succ]
        refine wpAnyT_take (i := 19) (oi := { dst := some 69, op := Op.call { callee := Callee.builtin Builtin.len, args := #[Operand.tmp 68], argTypes := #[22] }, type := 3, pos := "outright.go:45", after := #[{ on := 18, ground := Ground.data }, { on := 16, ground := Ground.guard }], guard := some (16, false) }) (v := (.int .i64 (lT : Int))) rfl (by kernel_rfl) (fun _ _ _ h => h) (Or.inl ⟨by rfl, ?_⟩) (KB.out _ GB.out) ?_
        · intro w hSw
          (try dsimp only at hSw)
          go_simp
        simp only [Act.put, List.setIfInBounds_toArray, List.set_cons_zero, List.set_cons_succ]
        refine wpAnyT_take (i := 20) (oi := { dst := some 70, op := Op.binOp BinOp.geq 3 (Operand.tmp 67) (Operand.tmp 69) 3, type := 4, pos := "outright.go:45", after := #[{ on := 17, ground := Ground.data }, { on := 19, ground := Ground.data }, { on := 16, ground := Ground.guard }], guard := some (16, false) }) (v := (.bool true)) rfl (by kernel_rfl) (fun _ _ _ h => h) (Or.inl ⟨by rfl, ?_⟩) (KB.out _ GB.out) ?_
        · intro w hSw
          (try dsimp only at hSw)
          go_simp
        simp only [Act.put, List.setIfInBounds_toArray, List.set_cons_zero, List.set_cons_succ]
        refine wpAnyT_take (i := 21) (oi := { dst := some 71, op := Op.move (Operand.tmp 70), type := 4, pos := "outright.go:45", after := #[{ on := 20, ground := Ground.data }, { on := 16, ground := Ground.chain }, { on := 16, ground := Ground.guard }], guard := some (16, false) }) (v := (.bool true)) rfl (by kernel_rfl) (fun _ _ _ h => h) (Or.inl ⟨by rfl, ?_⟩) (KB.out _ GB.out) ?_
        · intro w hSw
          (try dsimp only at hSw)
          go_simp
        simp only [Act.put, List.setIfInBounds_toArray, List.set_cons_zero, List.set_cons_succ]
        refine wpAnyT_take (i := 22) (oi := { dst := some 72, op := Op.move (Operand.tmp 0), type := 22, pos := "outright.go:45", after := #[{ on := 21, ground := Ground.guard }], guard := some (21, true) }) (v := (.slice (some ⟨b1, o1, none⟩) l0 c0)) rfl (by kernel_rfl) (fun _ _ _ h => h) (Or.inl ⟨by rfl, ?_⟩) (KB.out _ GB.out) ?_
        · intro w hSw
          (try dsimp only at hSw)
          go_simp
        simp only [Act.put, List.setIfInBounds_toArray, List.set_cons_zero, List.set_cons_succ]
        refine wpAnyT_take (i := 23) (oi := { dst := some 73, op := Op.move (Operand.tmp 11), type := 3, pos := "outright.go:45", after := #[{ on := 21, ground := Ground.guard }], guard := some (21, true) }) (v := (.int .i64 (i : Int))) rfl (by kernel_rfl) (fun _ _ _ h => h) (Or.inl ⟨by rfl, ?_⟩) (KB.out _ GB.out) ?_
        · intro w hSw
          (try dsimp only at hSw)
          go_simp
        simp only [Act.put, List.setIfInBounds_toArray, List.set_cons_zero, List.set_cons_succ]
        refine wpAnyT_take (i := 24) (oi := { dst := some 74, op := Op.indexAddr 22 (Operand.tmp 72) (Operand.tmp 73), type := 0, pos := "outright.go:45", after := #[{ on := 22, ground := Ground.data }, { on := 23, ground := Ground.data }, { on := 21, ground := Ground.guard }], guard := some (21, true) }) (v := (.pointer (some ⟨b1, o1 + i * 2, none⟩))) rfl (by kernel_rfl) (fun _ _ _ h => h) (Or.inl ⟨by rfl, ?_⟩) (KB.out _ GB.out) ?_
        · intro w hSw
          (try dsimp only at hSw)
          go_simp
        simp only [Act.put, List.setIfInBounds_toArray, List.set_cons_zero, List.set_cons_succ]
        refine wpAnyT_take (i := 25) (oi := { dst := some 75, op := Op.load 25 (Operand.tmp 74), type := 25, pos := "outright.go:45", after := #[{ on := 24, ground := Ground.data }, { on := 21, ground := Ground.guard }], guard := some (21, true) }) (v := (.agg #[.bool nf, .slice adf lf qf])) rfl (by kernel_rfl) (fun _ _ _ h => h) (Or.inl ⟨by rfl, ?_⟩) (KB.out _ GB.out) ?_
        · intro w hSw
          (try dsimp only at hSw)
          go_simp
        simp only [Act.put, List.setIfInBounds_toArray, List.set_cons_zero, List.set_cons_succ]
        refine wpAnyT_one (i := 26) (o := { dst := some 76, op := Op.call { callee := Callee.value (Operand.func 17), args := #[Operand.tmp 75], argTypes := #[25] }, type := 3, pos := "outright.go:45", after := #[{ on := 25, ground := Ground.data }, { on := 21, ground := Ground.chain }, { on := 21, ground := Ground.guard }], guard := some (21, true) }) (by kernel_rfl) rfl (fun K hK => ?_)
        go_simp
        go_at_call 17
        refine (sign0 (ZF.out.now GB.out) HZ0.out).mono ?_
        rintro e w62 ⟨rfl, b⟩
        have lz62 := (show Below _ _ _ from b).size
        replace GB := hid (below_step GB.out b)
        clear b
        refine hK.out _ _ (fun _ => KB.out _ GB.out) ?_
        clear hK
        refine wpAnyT_take (i := 27) (oi := { dst := some 77, op := Op.binOp BinOp.neq 3 (Operand.tmp 76) (Operand.const (Value.int IntKind.i64 0)) 3, type := 4, pos := "outright.go:45", after := #[{ on := 26, ground := Ground.data }, { on := 21, ground := Ground.guard }], guard := some (21, true) }) (v := (.bool false)) rfl (by kernel_rfl) (fun _ _ _ h => h) (Or.inl ⟨by rfl, ?_⟩) (KB.out _ GB.out) ?_
        · intro w hSw
          (try dsimp only at hSw)
          go_simp
        simp only [Act.put, List.setIfInBounds_toArray, List.set_cons_zero, List.set_cons_succ]
        refine wpAnyT_take (i := 28) (oi := { dst := some 78, op := Op.pick (Operand.tmp 71) (Operand.tmp 77) (Operand.const (Value.bool false)), type := 4, pos := "outright.go:45", after := #[{ on := 21, ground := Ground.data }, { on := 27, ground := Ground.data }, { on := 16, ground := Ground.guard }], guard := some (16, false) }) (v := (.bool false)) rfl (by kernel_rfl) (fun _ _ _ h => h) (Or.inl ⟨by rfl, ?_⟩) (KB.out _ GB.out) ?_
        · intro w hSw
          (try dsimp only at hSw)
          go_simp
        simp only [Act.put, List.setIfInBounds_toArray, List.set_cons_zero, List.set_cons_succ]
        refine wpAnyT_one (i := 29) (o := { dst := some 79, op := Op.pick (Operand.tmp 66) (Operand.const (Value.bool true)) (Operand.tmp 78), type := 4, pos := "outright.go:45", after := #[{ on := 16, ground := Ground.data }, { on := 28, ground := Ground.data }], guard := none }) (by kernel_rfl) rfl (fun K hK => ?_)
        go_simp
        refine hK.out _ _ (fun h => absurd h (by decide)) ?_
        clear hK
        try simp only [Act.put]
        refine wpAnyT_done (by kernel_rfl) ?_ _
        have HN1 : Hid (SrH w7 l0 (l0 - (i + 1)) (.int .i64 ((i + 1 : Nat) : Int)) w62) := ⟨i + 1, rfl, by omega, rfl, below_step B.out GB.out⟩
        clear B GB KB ZF
        go_wp2_with fail
        go_roundg (l0 - (i + 1))
        case rel => exact HN1.out
        case measure => exact HMM.out
    · have hlt' : ¬ (i : Int) < (l0 : Int) := by omega
      clear HG hin
      replace P := hid (P.out.now B.out)
      replace Q := hid (Q.out.now B.out)
      replace R := hid (R.out.now B.out)
      replace T := hid (T.out.now B.out)
      replace S := hid (S.out.now B.out)
      replace PQ := hid (PQ.out.now B.out)
      replace U := hid (U.out.now B.out)
      replace G := hid (below_step G.out B.out)
      clear B
      have hlS : lS ≤ 1048576 := by have := tr_le qs; have := ES.out; have := HLS.out; omega
      have hlPQ : lPQ ≤ 1048576 := by have := mulQ_len ps qs; have := EPQ.out; have := HLS.out; omega
      go_upto_region 12 with fail
      go_cut [97] from 14 (fun s1 wx => s1 = .bool false ∧ Below wr.heap.size wr wx)
      case first =>
        by_cases h1 : lT = 0
        · subst h1
          go_wp2_with fail
          go_meet
          exact ⟨rfl, Below.refl _ _⟩
        · have h1' : (0 : Int) < (lT : Int) := by omega
          by_cases h2 : lS = 0
          · subst h2
            go_wp2_with fail
            go_meet
            exact ⟨rfl, Below.refl _ _⟩
          · have h2' : (0 : Int) < (lS : Int) := by omega
            have hd : (lPQ : Int) - 1 = ((lT : Int) - 1) + ((lS : Int) - 1) := by
              have n1 : tr ps ≠ [] := fun e => by have := ET.out; rw [e] at this; simp at this; omega
              have n2 : tr qs ≠ [] := fun e => by have := ES.out; rw [e] at this; simp at this; omega
              have q := mulQ_length n1 n2
              rw [EPQ.out, ET.out, ES.out] at q
              omega
            have hw : IntKind.i64.wrap (((lT : Int) - 1) + ((lS : Int) - 1)) = ((lT : Int) - 1) + ((lS : Int) - 1) := by rw [wrap_is] <;> omega
            have hb : ((lPQ : Int) - 1 != ((lT : Int) - 1) + ((lS : Int) - 1)) = false := by rw [hd]; simp
            have ED := hid hd
            clear hd
            go_wp2_with fail
            refine (degree16 hlPQ).mono ?_
            rintro e w20 ⟨rfl, b20⟩
            go_wp2_with fail
            refine (degree16 (by omega)).mono ?_
            rintro e w21 ⟨rfl, b21⟩
            go_wp2_with fail
            refine (degree16 hlS).mono ?_
            rintro e w22 ⟨rfl, b22⟩
            have FB := hid (below_step (below_step b20 b21) b22)
            clear b20 b21 b22
            go_wp2_with fail
            go_meet
            exact ⟨rfl, FB.out⟩
      case rest =>
        rename World => Wd
        obtain ⟨rfl, b⟩ := hcut
        replace P := hid (P.out.now b)
        replace Q := hid (Q.out.now b)
        replace R := hid (R.out.now b)
        replace T := hid (T.out.now b)
        replace S := hid (S.out.now b)
        replace PQ := hid (PQ.out.now b)
        replace U := hid (U.out.now b)
        replace G := hid (below_step G.out b)
        clear b
        go_wp2_with fail
        refine (mulS Q.out P.out (by have := HK.out; omega) (by have := HLS.out; omega)).mono ?_
        rintro e w31 ⟨aX, lX, cX, rfl, EX, zX, b⟩
        replace P := hid (P.out.now b)
        replace Q := hid (Q.out.now b)
        replace R := hid (R.out.now b)
        replace T := hid (T.out.now b)
        replace S := hid (S.out.now b)
        replace PQ := hid (PQ.out.now b)
        replace U := hid (U.out.now b)
        replace G := hid (below_step G.out b)
        have X := hid zX
        clear zX
        clear b
        go_wp2_with fail
        refine (sameRow16 PQ.out X.out (mulQ_comm _ _)).mono ?_
        rintro e w32 ⟨rfl, b⟩
        replace P := hid (P.out.now b)
        replace Q := hid (Q.out.now b)
        replace R := hid (R.out.now b)
        replace T := hid (T.out.now b)
        replace S := hid (S.out.now b)
        replace PQ := hid (PQ.out.now b)
        replace U := hid (U.out.now b)
        replace X := hid (X.out.now b)
        replace G := hid (below_step G.out b)
        clear b
        clear X
        go_wp2_with fail
        refine (addS Q.out P.out (Nat.le_refl _) (Nat.le_refl _) (by have := HK.out; omega)).mono ?_
        rintro e w33 ⟨aX2, lX2, cX2, rfl, EX2, zX2, b⟩
        replace P := hid (P.out.now b)
        replace Q := hid (Q.out.now b)
        replace R := hid (R.out.now b)
        replace T := hid (T.out.now b)
        replace S := hid (S.out.now b)
        replace PQ := hid (PQ.out.now b)
        replace U := hid (U.out.now b)
        replace G := hid (below_step G.out b)
        have X2 := hid zX2
        clear zX2
        clear b
        go_wp2_with fail
        refine (sameRow16 U.out X2.out (adQ_comm _ _)).mono ?_
        rintro e w34 ⟨rfl, b⟩
        replace P := hid (P.out.now b)
        replace Q := hid (Q.out.now b)
        replace R := hid (R.out.now b)
        replace T := hid (T.out.now b)
        replace S := hid (S.out.now b)
        replace PQ := hid (PQ.out.now b)
        replace U := hid (U.out.now b)
        replace X2 := hid (X2.out.now b)
        replace G := hid (below_step G.out b)
        clear b
        clear X2
        go_wp2_with fail
        refine (mulS PQ.out.zl R.out (by have := HK.out; omega) (by have := HLS.out; have := mulQ_len ps qs; omega)).mono ?_
        rintro e w35 ⟨aX3, lX3, cX3, rfl, EX3, zX3, b⟩
        replace P := hid (P.out.now b)
        replace Q := hid (Q.out.now b)
        replace R := hid (R.out.now b)
        replace T := hid (T.out.now b)
        replace S := hid (S.out.now b)
        replace PQ := hid (PQ.out.now b)
        replace U := hid (U.out.now b)
        replace G := hid (below_step G.out b)
        have X3 := hid zX3
        clear zX3
        clear b
        go_wp2_with fail
        refine (mulS Q.out R.out (by have := HK.out; omega) (by have := HLS.out; omega)).mono ?_
        rintro e w36 ⟨aX4, lX4, cX4, rfl, EX4, zX4, b⟩
        replace P := hid (P.out.now b)
        replace Q := hid (Q.out.now b)
        replace R := hid (R.out.now b)
        replace T := hid (T.out.now b)
        replace S := hid (S.out.now b)
        replace PQ := hid (PQ.out.now b)
        replace U := hid (U.out.now b)
        replace X3 := hid (X3.out.now b)
        replace G := hid (below_step G.out b)
        have X4 := hid zX4
        clear zX4
        clear b
        go_wp2_with fail
        refine (mulS P.out X4.out.zl (by have := HK.out; omega) (by have := HLS.out; have := mulQ_len qs rs; omega)).mono ?_
        rintro e w37 ⟨aX5, lX5, cX5, rfl, EX5, zX5, b⟩
        replace P := hid (P.out.now b)
        replace Q := hid (Q.out.now b)
        replace R := hid (R.out.now b)
        replace T := hid (T.out.now b)
        replace S := hid (S.out.now b)
        replace PQ := hid (PQ.out.now b)
        replace U := hid (U.out.now b)
        replace X3 := hid (X3.out.now b)
        replace X4 := hid (X4.out.now b)
        replace G := hid (below_step G.out b)
        have X5 := hid zX5
        clear zX5
        clear b
        go_wp2_with fail
        refine (sameRow16 X3.out X5.out (mulQ_assoc _ _ _)).mono ?_
        rintro e w38 ⟨rfl, b⟩
        replace P := hid (P.out.now b)
        replace Q := hid (Q.out.now b)
        replace R := hid (R.out.now b)
        replace T := hid (T.out.now b)
        replace S := hid (S.out.now b)
        replace PQ := hid (PQ.out.now b)
        replace U := hid (U.out.now b)
        replace X3 := hid (X3.out.now b)
        replace X4 := hid (X4.out.now b)
        replace X5 := hid (X5.out.now b)
        replace G := hid (below_step G.out b)
        clear b
        clear X3
        clear X4
        clear X5
        go_wp2_with fail
        refine (addS U.out.zl R.out (K := k + 1) (by omega) (by omega) (by have := HK.out; omega)).mono ?_
        rintro e w39 ⟨aX6, lX6, cX6, rfl, EX6, zX6, b⟩
        replace P := hid (P.out.now b)
        replace Q := hid (Q.out.now b)
        replace R := hid (R.out.now b)
        replace T := hid (T.out.now b)
        replace S := hid (S.out.now b)
        replace PQ := hid (PQ.out.now b)
        replace U := hid (U.out.now b)
        replace G := hid (below_step G.out b)
        have X6 := hid zX6
        clear zX6
        clear b
        go_wp2_with fail
        refine (addS Q.out R.out (Nat.le_refl _) (Nat.le_refl _) (by have := HK.out; omega)).mono ?_
        rintro e w40 ⟨aX7, lX7, cX7, rfl, EX7, zX7, b⟩
        replace P := hid (P.out.now b)
        replace Q := hid (Q.out.now b)
        replace R := hid (R.out.now b)
        replace T := hid (T.out.now b)
        replace S := hid (S.out.now b)
        replace PQ := hid (PQ.out.now b)
        replace U := hid (U.out.now b)
        replace X6 := hid (X6.out.now b)
        replace G := hid (below_step G.out b)
        have X7 := hid zX7
        clear zX7
        clear b
        go_wp2_with fail
        refine (addS P.out X7.out.zl (K := k + 1) (by omega) (by omega) (by have := HK.out; omega)).mono ?_
        rintro e w41 ⟨aX8, lX8, cX8, rfl, EX8, zX8, b⟩
        replace P := hid (P.out.now b)
        replace Q := hid (Q.out.now b)
        replace R := hid (R.out.now b)
        replace T := hid (T.out.now b)
        replace S := hid (S.out.now b)
        replace PQ := hid (PQ.out.now b)
        replace U := hid (U.out.now b)
        replace X6 := hid (X6.out.now b)
        replace X7 := hid (X7.out.now b)
        replace G := hid (below_step G.out b)
        have X8 := hid zX8
        clear zX8
        clear b
        go_wp2_with fail
        refine (sameRow16 X6.out X8.out (adQ_assoc _ _ _)).mono ?_
        rintro e w42 ⟨rfl, b⟩
        replace P := hid (P.out.now b)
        replace Q := hid (Q.out.now b)
        replace R := hid (R.out.now b)
        replace T := hid (T.out.now b)
        replace S := hid (S.out.now b)
        replace PQ := hid (PQ.out.now b)
        replace U := hid (U.out.now b)
        replace X6 := hid (X6.out.now b)
        replace X7 := hid (X7.out.now b)
        replace X8 := hid (X8.out.now b)
        replace G := hid (below_step G.out b)
        clear b
        clear X6
        clear X8
        clear X7
        clear U
        go_wp2_with fail
        refine (addS Q.out R.out (Nat.le_refl _) (Nat.le_refl _) (by have := HK.out; omega)).mono ?_
        rintro e w43 ⟨aY1, lY1, cY1, rfl, EY1, zY1, b⟩
        replace P := hid (P.out.now b)
        replace Q := hid (Q.out.now b)
        replace R := hid (R.out.now b)
        replace T := hid (T.out.now b)
        replace S := hid (S.out.now b)
        replace PQ := hid (PQ.out.now b)
        replace G := hid (below_step G.out b)
        have Y1 := hid zY1
        clear zY1
        clear b
        go_wp2_with fail
        refine (mulS P.out Y1.out.zl (by have := HK.out; omega) (by have := HLS.out; have := adQ_len qs rs; omega)).mono ?_
        rintro e w44 ⟨aY2, lY2, cY2, rfl, EY2, zY2, b⟩
        replace P := hid (P.out.now b)
        replace Q := hid (Q.out.now b)
        replace R := hid (R.out.now b)
        replace T := hid (T.out.now b)
        replace S := hid (S.out.now b)
        replace PQ := hid (PQ.out.now b)
        replace Y1 := hid (Y1.out.now b)
        replace G := hid (below_step G.out b)
        have Y2 := hid zY2
        clear zY2
        clear b
        go_wp2_with fail
        refine (mulS P.out R.out (by have := HK.out; omega) (by have := HLS.out; omega)).mono ?_
        rintro e w45 ⟨aY3, lY3, cY3, rfl, EY3, zY3, b⟩
        replace P := hid (P.out.now b)
        replace Q := hid (Q.out.now b)
        replace R := hid (R.out.now b)
        replace T := hid (T.out.now b)
        replace S := hid (S.out.now b)
        replace PQ := hid (PQ.out.now b)
        replace Y1 := hid (Y1.out.now b)
        replace Y2 := hid (Y2.out.now b)
        replace G := hid (below_step G.out b)
        have Y3 := hid zY3
        clear zY3
        clear b
        go_wp2_with fail
        refine (addS PQ.out.zl Y3.out.zl (Nat.le_refl _) (Nat.le_refl _) (by have := HK.out; omega)).mono ?_
        rintro e w46 ⟨aY4, lY4, cY4, rfl, EY4, zY4, b⟩
        replace P := hid (P.out.now b)
        replace Q := hid (Q.out.now b)
        replace R := hid (R.out.now b)
        replace T := hid (T.out.now b)
        replace S := hid (S.out.now b)
        replace PQ := hid (PQ.out.now b)
        replace Y1 := hid (Y1.out.now b)
        replace Y2 := hid (Y2.out.now b)
        replace Y3 := hid (Y3.out.now b)
        replace G := hid (below_step G.out b)
        have Y4 := hid zY4
        clear zY4
        clear b
        go_wp2_with fail
        refine (sameRow16 Y2.out Y4.out (mulQ_add _ _ _)).mono ?_
        rintro e w47 ⟨rfl, b⟩
        replace P := hid (P.out.now b)
        replace Q := hid (Q.out.now b)
        replace R := hid (R.out.now b)
        replace T := hid (T.out.now b)
        replace S := hid (S.out.now b)
        replace PQ := hid (PQ.out.now b)
        replace Y1 := hid (Y1.out.now b)
        replace Y2 := hid (Y2.out.now b)
        replace Y3 := hid (Y3.out.now b)
        replace Y4 := hid (Y4.out.now b)
        replace G := hid (below_step G.out b)
        clear b
        clear Y1
        clear Y2
        clear Y3
        clear Y4
        clear PQ
        clear R
        go_wp2_with fail
        refine (of16 (n := 1) (by decide) (by decide) _).mono ?_
        rintro e w48 ⟨aO, cO, rfl, zO, b⟩
        replace P := hid (P.out.now b)
        replace Q := hid (Q.out.now b)
        replace T := hid (T.out.now b)
        replace S := hid (S.out.now b)
        replace G := hid (below_step G.out b)
        have O := hid zO
        clear zO
        clear b
        obtain ⟨V49, hV⟩ : ∃ V49, w48.alloc (duo (.bool false) (.slice aO 1 cO)) = V49 := ⟨_, rfl⟩
        obtain ⟨b, sz49⟩ := alo1 w48 (duo (.bool false) (.slice aO 1 cO))
        rw [hV] at b sz49
        replace P := hid (P.out.now b)
        replace Q := hid (Q.out.now b)
        replace T := hid (T.out.now b)
        replace S := hid (S.out.now b)
        replace O := hid (O.out.now b)
        replace G := hid (below_step G.out b)
        clear b sz49
        have DO : Hid (Duo V49 w48.heap.size (.bool false) (.slice aO 1 cO)) := by unfold Hid; rw [← hV]; exact Duo.new w48 _ _
        have ON := hid (zlc_one DO.out O.out)
        generalize hbo : w48.heap.size = bo at *
        clear O
        clear DO
        have EV : Hid (w48.alloc (duo (.bool false) (.slice aO 1 cO)) = V49) := hV
        clear hV
        go_wp2_with fail
        rw [EV.out]
        clear EV
        refine (of_z (n := -1) (by decide) (by decide) _).mono ?_
        rintro e w50 ⟨r1, rfl, m1, b⟩
        replace P := hid (P.out.now b)
        replace Q := hid (Q.out.now b)
        replace T := hid (T.out.now b)
        replace S := hid (S.out.now b)
        replace ON := hid (ON.out.now b)
        replace G := hid (below_step G.out b)
        have M0 := hid m1.zc
        obtain ⟨nM, xM, aM, cM, rfl⟩ := m1.parts
        obtain ⟨lM, hlM⟩ : ∃ lM, xM.length = lM := ⟨_, rfl⟩
        rw [hlM] at M0 ⊢
        clear m1 hlM
        clear b
        obtain ⟨V51, hV⟩ : ∃ V51, w50.alloc (duo (.bool nM) (.slice aM lM cM)) = V51 := ⟨_, rfl⟩
        obtain ⟨b, sz51⟩ := alo1 w50 (duo (.bool nM) (.slice aM lM cM))
        rw [hV] at b sz51
        replace P := hid (P.out.now b)
        replace Q := hid (Q.out.now b)
        replace T := hid (T.out.now b)
        replace S := hid (S.out.now b)
        replace ON := hid (ON.out.now b)
        replace M0 := hid (M0.out.now b)
        replace G := hid (below_step G.out b)
        clear b sz51
        have DM : Hid (Duo V51 w50.heap.size (.bool nM) (.slice aM lM cM)) := by unfold Hid; rw [← hV]; exact Duo.new w50 _ _
        have MN := hid (zlc_one DM.out M0.out)
        generalize hbm : w50.heap.size = bm at *
        clear M0
        clear DM
        have EV : Hid (w50.alloc (duo (.bool nM) (.slice aM lM cM)) = V51) := hV
        clear hV
        go_wp2_with fail
        rw [EV.out]
        clear EV
        refine (mulS P.out MN.out.zl (by have := HK.out; omega) (by have := HLS.out; have := (show ([-1] : List Int).length = 1 from rfl); omega)).mono ?_
        rintro e w52 ⟨aMI, lMI, cMI, rfl, EMI, zMI, b⟩
        replace P := hid (P.out.now b)
        replace Q := hid (Q.out.now b)
        replace T := hid (T.out.now b)
        replace S := hid (S.out.now b)
        replace ON := hid (ON.out.now b)
        replace MN := hid (MN.out.now b)
        replace G := hid (below_step G.out b)
        have MI := hid zMI
        clear zMI
        clear b
        clear MN
        go_wp2_with fail
        refine (mulS P.out ON.out.zl (by have := HK.out; omega) (by have := HLS.out; have := (show ([1] : List Int).length = 1 from rfl); omega)).mono ?_
        rintro e w53 ⟨aV1, lV1, cV1, rfl, EV1, zV1, b⟩
        replace P := hid (P.out.now b)
        replace Q := hid (Q.out.now b)
        replace T := hid (T.out.now b)
        replace S := hid (S.out.now b)
        replace ON := hid (ON.out.now b)
        replace MI := hid (MI.out.now b)
        replace G := hid (below_step G.out b)
        have V1 := hid zV1
        clear zV1
        clear b
        go_wp2_with fail
        refine (sameRow16 V1.out T.out (mulQ_one _)).mono ?_
        rintro e w54 ⟨rfl, b⟩
        replace P := hid (P.out.now b)
        replace Q := hid (Q.out.now b)
        replace T := hid (T.out.now b)
        replace S := hid (S.out.now b)
        replace ON := hid (ON.out.now b)
        replace MI := hid (MI.out.now b)
        replace V1 := hid (V1.out.now b)
        replace G := hid (below_step G.out b)
        clear b
        clear V1
        clear ON
        go_wp2_with fail
        refine (addS P.out (Zlc.nil _ k).zl (Nat.le_refl _) (Nat.le_refl _) (by have := HK.out; omega)).mono ?_
        rintro e w55 ⟨aV2, lV2, cV2, rfl, EV2, zV2, b⟩
        replace P := hid (P.out.now b)
        replace Q := hid (Q.out.now b)
        replace T := hid (T.out.now b)
        replace S := hid (S.out.now b)
        replace MI := hid (MI.out.now b)
        replace G := hid (below_step G.out b)
        have V2 := hid zV2
        clear zV2
        clear b
        go_wp2_with fail
        refine (sameRow16 V2.out T.out (adQ_nil _)).mono ?_
        rintro e w56 ⟨rfl, b⟩
        replace P := hid (P.out.now b)
        replace Q := hid (Q.out.now b)
        replace T := hid (T.out.now b)
        replace S := hid (S.out.now b)
        replace MI := hid (MI.out.now b)
        replace V2 := hid (V2.out.now b)
        replace G := hid (below_step G.out b)
        clear b
        clear V2
        clear T
        go_wp2_with fail
        refine (addS P.out MI.out.zl (K := k + 1 + 1) (by omega) (by omega) (by have := HK.out; omega)).mono ?_
        rintro e w57 ⟨aV, lV, cV, rfl, EV3, zV, b⟩
        replace P := hid (P.out.now b)
        replace Q := hid (Q.out.now b)
        replace S := hid (S.out.now b)
        replace MI := hid (MI.out.now b)
        replace G := hid (below_step G.out b)
        clear zV
        obtain rfl : lV = 0 := by have := EV3.out; rw [adQ_minus] at this; simpa using this.symm
        clear b
        go_wp2_with fail
        refine (mulS P.out (Zlc.nil _ k).zl (by have := HK.out; omega) (by have := HLS.out; have := (show ([] : List Int).length = 0 from rfl); omega)).mono ?_
        rintro e w58 ⟨aV2, lV2, cV2, rfl, EV4, zV, b⟩
        replace P := hid (P.out.now b)
        replace Q := hid (Q.out.now b)
        replace S := hid (S.out.now b)
        replace MI := hid (MI.out.now b)
        replace G := hid (below_step G.out b)
        clear zV
        obtain rfl : lV2 = 0 := by have := EV4.out; rw [mulQ_nil] at this; simpa using this.symm
        clear b
        have FIN : Hid (SaysB w true (.returned (.bool true)) w58) := ⟨rfl, G.out⟩
        clear P Q MI S G
        go_wp2
        go_ret
        exact FIN.out
end Go.Proofs.Ytnpcfohimlfbdaa
