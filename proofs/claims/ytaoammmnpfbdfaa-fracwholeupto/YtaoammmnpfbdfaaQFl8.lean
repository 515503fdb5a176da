/-
  Fl8: Cmp, Floor, Nearest.
-/
import Derived.Test.YtaoammmnpfbdfaaQAr8
import Derived.Test.YtaoammmnpfbdfaaQWp8ToBitAt
import Derived.Test.YtaoammmnpfbdfaaQZModToZlaw0
namespace Go.Proofs.Ytaoammmnpfbdfaa
open Go.RowKit
set_option linter.unusedVariables false

theorem bit0_z {w : World} {x0 x1 : Value} {z : Int} {k : Nat} (h : Zi w (.agg #[x0, x1]) z k) :
    Calls Try.prog 47 #[x1, .int .i64 0] w fun e w' => e = .returned (.int .i64 ((z.natAbs % 2 : Nat) : Int)) ∧ Below w.heap.size w w' := by
  obtain ⟨n, xs, a, c, e, s, v, l⟩ := h
  obtain ⟨rfl, rfl⟩ := pair_eq (show #[x0, x1] = _ by simpa using e)
  refine (bit_any s (i := 0) (by decide) (by decide)).mono ?_
  rintro e w' ⟨rfl, rfl⟩
  refine ⟨?_, Below.refl _ _⟩
  have h1 := iv_abs s.1 v
  have h2 : val xs = (vn xs : Int) := val_vn s.1
  have h3 : vn xs = z.natAbs := by omega
  unfold bitAt
  rw [if_neg (by decide), h3]
  simp
set_option maxHeartbeats 6400000 in
set_option maxRecDepth 100000 in
theorem fcmp_z {w : World} {a0 a1 a2 a3 b0 b1 b2 b3 : Value} {AN AD BN BD : Int} {k : Nat} (han : Zi w (.agg #[a0, a1]) AN k) (had : Zi w (.agg #[a2, a3]) AD k) (hbn : Zi w (.agg #[b0, b1]) BN k) (hbd : Zi w (.agg #[b2, b3]) BD k) (hk : k ≤ 17179869184) (hA : AD ≠ 0) (hB : BD ≠ 0) {C : Int} (hC : C = cmpI AD 0 * cmpI BD 0 * cmpI (AN * BD) (BN * AD)) :
    Calls Try.prog 24 #[.agg #[a0, a1, a2, a3], .agg #[b0, b1, b2, b3]] w (fun e w' => e = .returned (.tuple #[.int .i64 C, .int .i64 0]) ∧ Below w.heap.size w w') := by
  have HS : Hid (∀ w' v z, Zi w' v z k → _) := fun (w' : World) (v : Value) (z : Int) (h : Zi w' v z k) => sign_z h
  have HC : Hid (∀ w' v u, Zi w' v (AN * BD) (k + k) → Zi w' u (BN * AD) (k + k) → _) := fun (w' : World) (v u : Value) (h : Zi w' v (AN * BD) (k + k)) (h' : Zi w' u (BN * AD) (k + k)) => cmp_z h h'
  have HS1 : Hid (∀ w' v, Zi w' v AD k → _) := fun (w' : World) (v : Value) (h : Zi w' v AD k) => HS.out w' v AD h
  have HS2 : Hid (∀ w' v, Zi w' v BD k → _) := fun (w' : World) (v : Value) (h : Zi w' v BD k) => HS.out w' v BD h
  have b1 := cmpI_bound AD 0
  have b2 := cmpI_bound BD 0
  have b3 := cmpI_bound (AN * BD) (BN * AD)
  have n1 : cmpI AD 0 ≠ 0 := fun e => hA (cmpI_zero e)
  have n2 : cmpI BD 0 ≠ 0 := fun e => hB (cmpI_zero e)
  clear HS hA hB
  generalize cmpI AD 0 = S1 at *
  generalize cmpI BD 0 = S2 at *
  generalize cmpI (AN * BD) (BN * AD) = S3 at *
  have w1 : IntKind.i64.wrap (S1 * S2) = S1 * S2 := wrap_mul b1 b2
  have b4 : -1 ≤ S1 * S2 ∧ S1 * S2 ≤ 1 := by
    have : S1 = 1 ∨ S1 = -1 := by omega
    rcases this with rfl | rfl <;> omega
  have n3 : S1 * S2 ≠ 0 := Int.mul_ne_zero n1 n2
  obtain ⟨S, hS⟩ : ∃ S, S = S1 * S2 := ⟨_, rfl⟩
  rw [← hS] at b4 n3 hC
  replace w1 : IntKind.i64.wrap (S1 * S2) = S := w1.trans hS.symm
  have w2 : IntKind.i64.wrap (S * S3) = C := (wrap_mul b4 b3).trans hC.symm
  have HHC := hid hC
  have HHS := hid hS
  have q0 : (S == 0) = false := by rw [beq_eq_false_iff_ne]; exact n3
  clear b1 b2 b3 b4 n1 n2 n3 hS hC
  have zan0 := han
  obtain ⟨nan, xan, adan, can, ev, -, -, -⟩ := han
  simp only [Value.agg.injEq] at ev
  obtain ⟨rfl, rfl⟩ := pair_eq ev
  have zad0 := had
  obtain ⟨nad, xad, adad, cad, ev, -, -, -⟩ := had
  simp only [Value.agg.injEq] at ev
  obtain ⟨rfl, rfl⟩ := pair_eq ev
  have zbn0 := hbn
  obtain ⟨nbn, xbn, adbn, cbn, ev, -, -, -⟩ := hbn
  simp only [Value.agg.injEq] at ev
  obtain ⟨rfl, rfl⟩ := pair_eq ev
  have zbd0 := hbd
  obtain ⟨nbd, xbd, adbd, cbd, ev, -, -, -⟩ := hbd
  simp only [Value.agg.injEq] at ev
  obtain ⟨rfl, rfl⟩ := pair_eq ev
  obtain ⟨W0, hW⟩ : ∃ W0, (w.alloc (.cells #[(.bool nan), (.slice adan xan.length can), (.bool nad), (.slice adad xad.length cad)] 26)).alloc (.cells #[(.bool nbn), (.slice adbn xbn.length cbn), (.bool nbd), (.slice adbd xbd.length cbd)] 26) = W0 := ⟨_, rfl⟩
  obtain ⟨b0, sz0⟩ := alloc2 w (.cells #[(.bool nan), (.slice adan xan.length can), (.bool nad), (.slice adad xad.length cad)] 26) (.cells #[(.bool nbn), (.slice adbn xbn.length cbn), (.bool nbd), (.slice adbd xbd.length cbd)] 26)
  rw [hW] at b0 sz0
  have Pa : Hid (Cel W0 (w.heap.size) 26 [(.bool nan), (.slice adan xan.length can), (.bool nad), (.slice adad xad.length cad)]) := by unfold Hid; rw [← hW]; exact cel_late (cel_at (by simp)) _
  have Pb : Hid (Cel W0 (w.heap.size + 1) 26 [(.bool nbn), (.slice adbn xbn.length cbn), (.bool nbd), (.slice adbd xbd.length cbd)]) := by unfold Hid; rw [← hW]; exact cel_at (by simp)
  have Zan := hid (zan0.now b0)
  clear zan0
  have Zad := hid (zad0.now b0)
  clear zad0
  have Zbn := hid (zbn0.now b0)
  clear zbn0
  have Zbd := hid (zbd0.now b0)
  clear zbd0
  have G := hid b0
  clear b0
  have EW := hid hW
  clear hW
  go_enter Try.func24, Try.ntmps24
  skip
  go_wp2_with fail
  rw [EW.out]
  clear EW
  refine wp_region_tail (fun w' => w'.cell? ⟨w.heap.size, 0, none⟩ = some (.bool nan) ∧ w'.cell? ⟨w.heap.size, 1, none⟩ = some (.slice adan xan.length can) ∧ w'.cell? ⟨w.heap.size, 2, none⟩ = some (.bool nad) ∧ w'.cell? ⟨w.heap.size, 3, none⟩ = some (.slice adad xad.length cad) ∧ w'.cell? ⟨w.heap.size + 1, 0, none⟩ = some (.bool nbn) ∧ w'.cell? ⟨w.heap.size + 1, 1, none⟩ = some (.slice adbn xbn.length cbn) ∧ w'.cell? ⟨w.heap.size + 1, 2, none⟩ = some (.bool nbd) ∧ w'.cell? ⟨w.heap.size + 1, 3, none⟩ = some (.slice adbd xbd.length cbd)) 7 (by kernel_rfl) ?_
  obtain ⟨D1, hD⟩ : ∃ D1, W0.drew = D1 := ⟨_, rfl⟩
  have b : Below W0.heap.size W0 D1 := by rw [← hD]; exact (Below.refl _ _).drew
  rw [hD]
  clear hD
  replace Zan := hid (Zan.out.now b)
  replace Zad := hid (Zad.out.now b)
  replace Zbn := hid (Zbn.out.now b)
  replace Zbd := hid (Zbd.out.now b)
  replace Pa := hid (Pa.out.step b)
  replace Pb := hid (Pb.out.step b)
  replace G := hid (below_step G.out b)
  have lz2 := (show Below _ _ _ from b).size
  clear b
  refine wpAnyT_take (i := 0) (oi := { dst := some 7, op := Op.fieldAddr 26 (Operand.tmp 2) 1, type := 0, pos := "frac.go:54", after := #[], guard := none }) (v := (.pointer (some ⟨w.heap.size, 2, none⟩))) rfl (by kernel_rfl) (fun _ _ _ h => h) (Or.inl ⟨by rfl, ?_⟩) ⟨(Pa.out.at (i := 0) rfl), (Pa.out.at (i := 1) rfl), (Pa.out.at (i := 2) rfl), (Pa.out.at (i := 3) rfl), (Pb.out.at (i := 0) rfl), (Pb.out.at (i := 1) rfl), (Pb.out.at (i := 2) rfl), (Pb.out.at (i := 3) rfl)⟩ ?_
  · intro w hSw
    (try dsimp only at hSw)
    go_simp
  simp only [Act.put, List.setIfInBounds_toArray, List.set_cons_zero, List.set_cons_succ]
  refine wpAnyT_take (i := 1) (oi := { dst := some 8, op := Op.load 24 (Operand.tmp 7), type := 24, pos := "frac.go:54", after := #[{ on := 0, ground := Ground.data }], guard := none }) (v := (.agg #[(.bool nad), (.slice adad xad.length cad)])) rfl (by kernel_rfl) (fun _ _ _ h => h) (Or.inl ⟨by rfl, ?_⟩) ⟨(Pa.out.at (i := 0) rfl), (Pa.out.at (i := 1) rfl), (Pa.out.at (i := 2) rfl), (Pa.out.at (i := 3) rfl), (Pb.out.at (i := 0) rfl), (Pb.out.at (i := 1) rfl), (Pb.out.at (i := 2) rfl), (Pb.out.at (i := 3) rfl)⟩ ?_
  · intro w hSw
    (try dsimp only at hSw)
    go_simp
  simp only [Act.put, List.setIfInBounds_toArray, List.set_cons_zero, List.set_cons_succ]
  refine wpAnyT_take (i := 3) (oi := { dst := some 10, op := Op.fieldAddr 26 (Operand.tmp 3) 1, type := 0, pos := "frac.go:54", after := #[], guard := none }) (v := (.pointer (some ⟨w.heap.size + 1, 2, none⟩))) rfl (by kernel_rfl) (fun _ _ _ h => h) (Or.inl ⟨by rfl, ?_⟩) ⟨(Pa.out.at (i := 0) rfl), (Pa.out.at (i := 1) rfl), (Pa.out.at (i := 2) rfl), (Pa.out.at (i := 3) rfl), (Pb.out.at (i := 0) rfl), (Pb.out.at (i := 1) rfl), (Pb.out.at (i := 2) rfl), (Pb.out.at (i := 3) rfl)⟩ ?_
  · intro w hSw
    (try dsimp only at hSw)
    go_simp
  simp only [Act.put, List.setIfInBounds_toArray, List.set_cons_zero, List.set_cons_succ]
  refine wpAnyT_take (i := 4) (oi := { dst := some 11, op := Op.load 24 (Operand.tmp 10), type := 24, pos := "frac.go:54", after := #[{ on := 3, ground := Ground.data }], guard := none }) (v := (.agg #[(.bool nbd), (.slice adbd xbd.length cbd)])) rfl (by kernel_rfl) (fun _ _ _ h => h) (Or.inl ⟨by rfl, ?_⟩) ⟨(Pa.out.at (i := 0) rfl), (Pa.out.at (i := 1) rfl), (Pa.out.at (i := 2) rfl), (Pa.out.at (i := 3) rfl), (Pb.out.at (i := 0) rfl), (Pb.out.at (i := 1) rfl), (Pb.out.at (i := 2) rfl), (Pb.out.at (i := 3) rfl)⟩ ?_
  · intro w hSw
    (try dsimp only at hSw)
    go_simp
  simp only [Act.put, List.setIfInBounds_toArray, List.set_cons_zero, List.set_cons_succ]
  refine wpAnyT_one (i := 2) (o := { dst := some 9, op := Op.call { callee := Callee.value (Operand.func 19), args := #[Operand.tmp 8], argTypes := #[24] }, type := 3, pos := "frac.go:54", after := #[{ on := 1, ground := Ground.data }], guard := none }) (by kernel_rfl) rfl (fun K hK => ?_)
  go_simp
  go_at_call 19
  refine (HS1.out _ _ Zad.out).mono ?_
  rintro e w3 ⟨rfl, b⟩
  replace Zan := hid (Zan.out.now b)
  replace Zad := hid (Zad.out.now b)
  replace Zbn := hid (Zbn.out.now b)
  replace Zbd := hid (Zbd.out.now b)
  replace Pa := hid (Pa.out.step b)
  replace Pb := hid (Pb.out.step b)
  replace G := hid (below_step G.out b)
  have lz4 := (show Below _ _ _ from b).size
  clear b 
  refine hK.out _ _ (fun _ => ⟨(Pa.out.at (i := 0) rfl), (Pa.out.at (i := 1) rfl), (Pa.out.at (i := 2) rfl), (Pa.out.at (i := 3) rfl), (Pb.out.at (i := 0) rfl), (Pb.out.at (i := 1) rfl), (Pb.out.at (i := 2) rfl), (Pb.out.at (i := 3) rfl)⟩) ?_
  clear hK
  refine wpAnyT_one (i := 5) (o := { dst := some 12, op := Op.call { callee := Callee.value (Operand.func 19), args := #[Operand.tmp 11], argTypes := #[24] }, type := 3, pos := "frac.go:54", after := #[{ on := 4, ground := Ground.data }, { on := 2, ground := Ground.chain }], guard := none }) (by kernel_rfl) rfl (fun K hK => ?_)
  go_simp
  go_at_call 19
  refine (HS2.out _ _ Zbd.out).mono ?_
  rintro e w5 ⟨rfl, b⟩
  replace Zan := hid (Zan.out.now b)
  replace Zad := hid (Zad.out.now b)
  replace Zbn := hid (Zbn.out.now b)
  replace Zbd := hid (Zbd.out.now b)
  replace Pa := hid (Pa.out.step b)
  replace Pb := hid (Pb.out.step b)
  replace G := hid (below_step G.out b)
  have lz6 := (show Below _ _ _ from b).size
  clear b 
  refine hK.out _ _ (fun _ => ⟨(Pa.out.at (i := 0) rfl), (Pa.out.at (i := 1) rfl), (Pa.out.at (i := 2) rfl), (Pa.out.at (i := 3) rfl), (Pb.out.at (i := 0) rfl), (Pb.out.at (i := 1) rfl), (Pb.out.at (i := 2) rfl), (Pb.out.at (i := 3) rfl)⟩) ?_
  clear hK
  refine wpAnyT_take (i := 6) (oi := { dst := some 13, op := Op.binOp BinOp.mul 3 (Operand.tmp 9) (Operand.tmp 12) 3, type := 3, pos := "frac.go:54", after := #[{ on := 2, ground := Ground.data }, { on := 5, ground := Ground.data }], guard := none }) (v := (.int .i64 S)) rfl (by kernel_rfl) (fun _ _ _ h => h) (Or.inl ⟨by rfl, ?_⟩) ⟨(Pa.out.at (i := 0) rfl), (Pa.out.at (i := 1) rfl), (Pa.out.at (i := 2) rfl), (Pa.out.at (i := 3) rfl), (Pb.out.at (i := 0) rfl), (Pb.out.at (i := 1) rfl), (Pb.out.at (i := 2) rfl), (Pb.out.at (i := 3) rfl)⟩ ?_
  · intro w hSw
    (try dsimp only at hSw)
    go_simp
  simp only [Act.put, List.setIfInBounds_toArray, List.set_cons_zero, List.set_cons_succ]
  refine wpAnyT_one (i := 7) (o := { dst := some 6, op := Op.assign (Operand.tmp 13), type := 3, pos := "frac.go:54", after := #[{ on := 6, ground := Ground.data }, { on := 5, ground := Ground.chain }, { on := 0, ground := Ground.phase }, { on := 1, ground := Ground.phase }, { on := 2, ground := Ground.phase }, { on := 3, ground := Ground.phase }, { on := 4, ground := Ground.phase }, { on := 5, ground := Ground.phase }, { on := 6, ground := Ground.phase }], guard := none }) (by kernel_rfl) rfl (fun K hK => ?_)
  go_simp
  refine hK.out _ _ (fun h => absurd h (by decide)) ?_
  clear hK
  try simp only [Act.put]
  refine wpAnyT_done (by kernel_rfl) ?_ _
  go_wp2_with fail
  refine wp_region_tail (fun w' => w'.cell? ⟨w.heap.size, 0, none⟩ = some (.bool nan) ∧ w'.cell? ⟨w.heap.size, 1, none⟩ = some (.slice adan xan.length can) ∧ w'.cell? ⟨w.heap.size, 2, none⟩ = some (.bool nad) ∧ w'.cell? ⟨w.heap.size, 3, none⟩ = some (.slice adad xad.length cad) ∧ w'.cell? ⟨w.heap.size + 1, 0, none⟩ = some (.bool nbn) ∧ w'.cell? ⟨w.heap.size + 1, 1, none⟩ = some (.slice adbn xbn.length cbn) ∧ w'.cell? ⟨w.heap.size + 1, 2, none⟩ = some (.bool nbd) ∧ w'.cell? ⟨w.heap.size + 1, 3, none⟩ = some (.slice adbd xbd.length cbd)) 14 (by kernel_rfl) ?_
  obtain ⟨D7, hD⟩ : ∃ D7, w5.drew = D7 := ⟨_, rfl⟩
  have b : Below w5.heap.size w5 D7 := by rw [← hD]; exact (Below.refl _ _).drew
  rw [hD]
  clear hD
  replace Zan := hid (Zan.out.now b)
  replace Zad := hid (Zad.out.now b)
  replace Zbn := hid (Zbn.out.now b)
  replace Zbd := hid (Zbd.out.now b)
  replace Pa := hid (Pa.out.step b)
  replace Pb := hid (Pb.out.step b)
  replace G := hid (below_step G.out b)
  have lz8 := (show Below _ _ _ from b).size
  clear b
  refine wpAnyT_take (i := 0) (oi := { dst := some 16, op := Op.move (Operand.tmp 6), type := 3, pos := "frac.go:59", after := #[], guard := none }) (v := (.int .i64 S)) rfl (by kernel_rfl) (fun _ _ _ h => h) (Or.inl ⟨by rfl, ?_⟩) ⟨(Pa.out.at (i := 0) rfl), (Pa.out.at (i := 1) rfl), (Pa.out.at (i := 2) rfl), (Pa.out.at (i := 3) rfl), (Pb.out.at (i := 0) rfl), (Pb.out.at (i := 1) rfl), (Pb.out.at (i := 2) rfl), (Pb.out.at (i := 3) rfl)⟩ ?_
  · intro w hSw
    (try dsimp only at hSw)
    go_simp
  simp only [Act.put, List.setIfInBounds_toArray, List.set_cons_zero, List.set_cons_succ]
  refine wpAnyT_take (i := 1) (oi := { dst := some 17, op := Op.fieldAddr 26 (Operand.tmp 2) 0, type := 0, pos := "frac.go:59", after := #[], guard := none }) (v := (.pointer (some ⟨w.heap.size, 0, none⟩))) rfl (by kernel_rfl) (fun _ _ _ h => h) (Or.inl ⟨by rfl, ?_⟩) ⟨(Pa.out.at (i := 0) rfl), (Pa.out.at (i := 1) rfl), (Pa.out.at (i := 2) rfl), (Pa.out.at (i := 3) rfl), (Pb.out.at (i := 0) rfl), (Pb.out.at (i := 1) rfl), (Pb.out.at (i := 2) rfl), (Pb.out.at (i := 3) rfl)⟩ ?_
  · intro w hSw
    (try dsimp only at hSw)
    go_simp
  simp only [Act.put, List.setIfInBounds_toArray, List.set_cons_zero, List.set_cons_succ]
  refine wpAnyT_take (i := 2) (oi := { dst := some 18, op := Op.load 24 (Operand.tmp 17), type := 24, pos := "frac.go:59", after := #[{ on := 1, ground := Ground.data }], guard := none }) (v := (.agg #[(.bool nan), (.slice adan xan.length can)])) rfl (by kernel_rfl) (fun _ _ _ h => h) (Or.inl ⟨by rfl, ?_⟩) ⟨(Pa.out.at (i := 0) rfl), (Pa.out.at (i := 1) rfl), (Pa.out.at (i := 2) rfl), (Pa.out.at (i := 3) rfl), (Pb.out.at (i := 0) rfl), (Pb.out.at (i := 1) rfl), (Pb.out.at (i := 2) rfl), (Pb.out.at (i := 3) rfl)⟩ ?_
  · intro w hSw
    (try dsimp only at hSw)
    go_simp
  simp only [Act.put, List.setIfInBounds_toArray, List.set_cons_zero, List.set_cons_succ]
  refine wpAnyT_take (i := 3) (oi := { dst := some 19, op := Op.fieldAddr 26 (Operand.tmp 3) 1, type := 0, pos := "frac.go:59", after := #[], guard := none }) (v := (.pointer (some ⟨w.heap.size + 1, 2, none⟩))) rfl (by kernel_rfl) (fun _ _ _ h => h) (Or.inl ⟨by rfl, ?_⟩) ⟨(Pa.out.at (i := 0) rfl), (Pa.out.at (i := 1) rfl), (Pa.out.at (i := 2) rfl), (Pa.out.at (i := 3) rfl), (Pb.out.at (i := 0) rfl), (Pb.out.at (i := 1) rfl), (Pb.out.at (i := 2) rfl), (Pb.out.at (i := 3) rfl)⟩ ?_
  · intro w hSw
    (try dsimp only at hSw)
    go_simp
  simp only [Act.put, List.setIfInBounds_toArray, List.set_cons_zero, List.set_cons_succ]
  refine wpAnyT_take (i := 4) (oi := { dst := some 20, op := Op.load 24 (Operand.tmp 19), type := 24, pos := "frac.go:59", after := #[{ on := 3, ground := Ground.data }], guard := none }) (v := (.agg #[(.bool nbd), (.slice adbd xbd.length cbd)])) rfl (by kernel_rfl) (fun _ _ _ h => h) (Or.inl ⟨by rfl, ?_⟩) ⟨(Pa.out.at (i := 0) rfl), (Pa.out.at (i := 1) rfl), (Pa.out.at (i := 2) rfl), (Pa.out.at (i := 3) rfl), (Pb.out.at (i := 0) rfl), (Pb.out.at (i := 1) rfl), (Pb.out.at (i := 2) rfl), (Pb.out.at (i := 3) rfl)⟩ ?_
  · intro w hSw
    (try dsimp only at hSw)
    go_simp
  simp only [Act.put, List.setIfInBounds_toArray, List.set_cons_zero, List.set_cons_succ]
  refine wpAnyT_take (i := 6) (oi := { dst := some 22, op := Op.fieldAddr 26 (Operand.tmp 3) 0, type := 0, pos := "frac.go:59", after := #[], guard := none }) (v := (.pointer (some ⟨w.heap.size + 1, 0, none⟩))) rfl (by kernel_rfl) (fun _ _ _ h => h) (Or.inl ⟨by rfl, ?_⟩) ⟨(Pa.out.at (i := 0) rfl), (Pa.out.at (i := 1) rfl), (Pa.out.at (i := 2) rfl), (Pa.out.at (i := 3) rfl), (Pb.out.at (i := 0) rfl), (Pb.out.at (i := 1) rfl), (Pb.out.at (i := 2) rfl), (Pb.out.at (i := 3) rfl)⟩ ?_
  · intro w hSw
    (try dsimp only at hSw)
    go_simp
  simp only [Act.put, List.setIfInBounds_toArray, List.set_cons_zero, List.set_cons_succ]
  refine wpAnyT_take (i := 7) (oi := { dst := some 23, op := Op.load 24 (Operand.tmp 22), type := 24, pos := "frac.go:59", after := #[{ on := 6, ground := Ground.data }], guard := none }) (v := (.agg #[(.bool nbn), (.slice adbn xbn.length cbn)])) rfl (by kernel_rfl) (fun _ _ _ h => h) (Or.inl ⟨by rfl, ?_⟩) ⟨(Pa.out.at (i := 0) rfl), (Pa.out.at (i := 1) rfl), (Pa.out.at (i := 2) rfl), (Pa.out.at (i := 3) rfl), (Pb.out.at (i := 0) rfl), (Pb.out.at (i := 1) rfl), (Pb.out.at (i := 2) rfl), (Pb.out.at (i := 3) rfl)⟩ ?_
  · intro w hSw
    (try dsimp only at hSw)
    go_simp
  simp only [Act.put, List.setIfInBounds_toArray, List.set_cons_zero, List.set_cons_succ]
  refine wpAnyT_take (i := 8) (oi := { dst := some 24, op := Op.fieldAddr 26 (Operand.tmp 2) 1, type := 0, pos := "frac.go:59", after := #[], guard := none }) (v := (.pointer (some ⟨w.heap.size, 2, none⟩))) rfl (by kernel_rfl) (fun _ _ _ h => h) (Or.inl ⟨by rfl, ?_⟩) ⟨(Pa.out.at (i := 0) rfl), (Pa.out.at (i := 1) rfl), (Pa.out.at (i := 2) rfl), (Pa.out.at (i := 3) rfl), (Pb.out.at (i := 0) rfl), (Pb.out.at (i := 1) rfl), (Pb.out.at (i := 2) rfl), (Pb.out.at (i := 3) rfl)⟩ ?_
  · intro w hSw
    (try dsimp only at hSw)
    go_simp
  simp only [Act.put, List.setIfInBounds_toArray, List.set_cons_zero, List.set_cons_succ]
  refine wpAnyT_take (i := 9) (oi := { dst := some 25, op := Op.load 24 (Operand.tmp 24), type := 24, pos := "frac.go:59", after := #[{ on := 8, ground := Ground.data }], guard := none }) (v := (.agg #[(.bool nad), (.slice adad xad.length cad)])) rfl (by kernel_rfl) (fun _ _ _ h => h) (Or.inl ⟨by rfl, ?_⟩) ⟨(Pa.out.at (i := 0) rfl), (Pa.out.at (i := 1) rfl), (Pa.out.at (i := 2) rfl), (Pa.out.at (i := 3) rfl), (Pb.out.at (i := 0) rfl), (Pb.out.at (i := 1) rfl), (Pb.out.at (i := 2) rfl), (Pb.out.at (i := 3) rfl)⟩ ?_
  · intro w hSw
    (try dsimp only at hSw)
    go_simp
  simp only [Act.put, List.setIfInBounds_toArray, List.set_cons_zero, List.set_cons_succ]
  refine wpAnyT_one (i := 5) (o := { dst := some 21, op := Op.call { callee := Callee.value (Operand.func 16), args := #[Operand.tmp 18, Operand.tmp 20], argTypes := #[24, 24] }, type := 24, pos := "frac.go:59", after := #[{ on := 2, ground := Ground.data }, { on := 4, ground := Ground.data }], guard := none }) (by kernel_rfl) rfl (fun K hK => ?_)
  go_simp
  go_at_call 16
  refine (mul_z Zan.out Zbd.out (by omega)).mono ?_
  rintro e w9 ⟨r0, rfl, m0, b⟩
  obtain ⟨np, xp, adp, qp, rfl, -, -, -, -, -⟩ := id m0
  replace Zan := hid (Zan.out.now b)
  replace Zad := hid (Zad.out.now b)
  replace Zbn := hid (Zbn.out.now b)
  replace Zbd := hid (Zbd.out.now b)
  replace Pa := hid (Pa.out.step b)
  replace Pb := hid (Pb.out.step b)
  replace G := hid (below_step G.out b)
  have lz10 := (show Below _ _ _ from b).size
  have Zp := hid m0
  clear b m0
  refine hK.out _ _ (fun _ => ⟨(Pa.out.at (i := 0) rfl), (Pa.out.at (i := 1) rfl), (Pa.out.at (i := 2) rfl), (Pa.out.at (i := 3) rfl), (Pb.out.at (i := 0) rfl), (Pb.out.at (i := 1) rfl), (Pb.out.at (i := 2) rfl), (Pb.out.at (i := 3) rfl)⟩) ?_
  clear hK
  refine wpAnyT_one (i := 10) (o := { dst := some 26, op := Op.call { callee := Callee.value (Operand.func 16), args := #[Operand.tmp 23, Operand.tmp 25], argTypes := #[24, 24] }, type := 24, pos := "frac.go:59", after := #[{ on := 7, ground := Ground.data }, { on := 9, ground := Ground.data }, { on := 5, ground := Ground.chain }], guard := none }) (by kernel_rfl) rfl (fun K hK => ?_)
  go_simp
  go_at_call 16
  refine (mul_z Zbn.out Zad.out (by omega)).mono ?_
  rintro e w11 ⟨r0, rfl, m0, b⟩
  obtain ⟨nq, xq, adq, qq, rfl, -, -, -, -, -⟩ := id m0
  replace Zan := hid (Zan.out.now b)
  replace Zad := hid (Zad.out.now b)
  replace Zbn := hid (Zbn.out.now b)
  replace Zbd := hid (Zbd.out.now b)
  replace Zp := hid (Zp.out.now b)
  replace Pa := hid (Pa.out.step b)
  replace Pb := hid (Pb.out.step b)
  replace G := hid (below_step G.out b)
  have lz12 := (show Below _ _ _ from b).size
  have Zq := hid m0
  clear b m0
  refine hK.out _ _ (fun _ => ⟨(Pa.out.at (i := 0) rfl), (Pa.out.at (i := 1) rfl), (Pa.out.at (i := 2) rfl), (Pa.out.at (i := 3) rfl), (Pb.out.at (i := 0) rfl), (Pb.out.at (i := 1) rfl), (Pb.out.at (i := 2) rfl), (Pb.out.at (i := 3) rfl)⟩) ?_
  clear hK
  refine wpAnyT_one (i := 11) (o := { dst := some 27, op := Op.call { callee := Callee.value (Operand.func 32), args := #[Operand.tmp 21, Operand.tmp 26], argTypes := #[24, 24] }, type := 3, pos := "frac.go:59", after := #[{ on := 5, ground := Ground.data }, { on := 10, ground := Ground.data }, { on := 10, ground := Ground.chain }], guard := none }) (by kernel_rfl) rfl (fun K hK => ?_)
  go_simp
  go_at_call 32
  refine (HC.out _ _ _ Zp.out.zi Zq.out.zi).mono ?_
  rintro e w13 ⟨rfl, b⟩
  replace Zan := hid (Zan.out.now b)
  replace Zad := hid (Zad.out.now b)
  replace Zbn := hid (Zbn.out.now b)
  replace Zbd := hid (Zbd.out.now b)
  replace Zp := hid (Zp.out.now b)
  replace Zq := hid (Zq.out.now b)
  replace Pa := hid (Pa.out.step b)
  replace Pb := hid (Pb.out.step b)
  replace G := hid (below_step G.out b)
  have lz14 := (show Below _ _ _ from b).size
  clear b 
  refine hK.out _ _ (fun _ => ⟨(Pa.out.at (i := 0) rfl), (Pa.out.at (i := 1) rfl), (Pa.out.at (i := 2) rfl), (Pa.out.at (i := 3) rfl), (Pb.out.at (i := 0) rfl), (Pb.out.at (i := 1) rfl), (Pb.out.at (i := 2) rfl), (Pb.out.at (i := 3) rfl)⟩) ?_
  clear hK
  refine wpAnyT_take (i := 12) (oi := { dst := some 28, op := Op.binOp BinOp.mul 3 (Operand.tmp 16) (Operand.tmp 27) 3, type := 3, pos := "frac.go:59", after := #[{ on := 0, ground := Ground.data }, { on := 11, ground := Ground.data }], guard := none }) (v := (.int .i64 C)) rfl (by kernel_rfl) (fun _ _ _ h => h) (Or.inl ⟨by rfl, ?_⟩) ⟨(Pa.out.at (i := 0) rfl), (Pa.out.at (i := 1) rfl), (Pa.out.at (i := 2) rfl), (Pa.out.at (i := 3) rfl), (Pb.out.at (i := 0) rfl), (Pb.out.at (i := 1) rfl), (Pb.out.at (i := 2) rfl), (Pb.out.at (i := 3) rfl)⟩ ?_
  · intro w hSw
    (try dsimp only at hSw)
    go_simp
  simp only [Act.put, List.setIfInBounds_toArray, List.set_cons_zero, List.set_cons_succ]
  refine wpAnyT_take (i := 13) (oi := { dst := some 4, op := Op.assign (Operand.tmp 28), type := 3, pos := "frac.go:59", after := #[{ on := 12, ground := Ground.data }, { on := 11, ground := Ground.chain }, { on := 0, ground := Ground.phase }, { on := 1, ground := Ground.phase }, { on := 2, ground := Ground.phase }, { on := 3, ground := Ground.phase }, { on := 4, ground := Ground.phase }, { on := 5, ground := Ground.phase }, { on := 6, ground := Ground.phase }, { on := 7, ground := Ground.phase }, { on := 8, ground := Ground.phase }, { on := 9, ground := Ground.phase }, { on := 10, ground := Ground.phase }, { on := 11, ground := Ground.phase }, { on := 12, ground := Ground.phase }], guard := none }) (v := (.int .i64 C)) rfl (by kernel_rfl) (fun _ _ _ h => h) (Or.inl ⟨by rfl, ?_⟩) ⟨(Pa.out.at (i := 0) rfl), (Pa.out.at (i := 1) rfl), (Pa.out.at (i := 2) rfl), (Pa.out.at (i := 3) rfl), (Pb.out.at (i := 0) rfl), (Pb.out.at (i := 1) rfl), (Pb.out.at (i := 2) rfl), (Pb.out.at (i := 3) rfl)⟩ ?_
  · intro w hSw
    (try dsimp only at hSw)
    go_simp
  simp only [Act.put, List.setIfInBounds_toArray, List.set_cons_zero, List.set_cons_succ]
  refine wpAnyT_one (i := 14) (o := { dst := some 5, op := Op.assign (Operand.const (Value.int IntKind.i64 0)), type := 28, pos := "frac.go:59", after := #[{ on := 13, ground := Ground.chain }, { on := 0, ground := Ground.phase }, { on := 1, ground := Ground.phase }, { on := 2, ground := Ground.phase }, { on := 3, ground := Ground.phase }, { on := 4, ground := Ground.phase }, { on := 5, ground := Ground.phase }, { on := 6, ground := Ground.phase }, { on := 7, ground := Ground.phase }, { on := 8, ground := Ground.phase }, { on := 9, ground := Ground.phase }, { on := 10, ground := Ground.phase }, { on := 11, ground := Ground.phase }, { on := 12, ground := Ground.phase }, { on := 13, ground := Ground.phase }], guard := none }) (by kernel_rfl) rfl (fun K hK => ?_)
  go_simp
  refine hK.out _ _ (fun h => absurd h (by decide)) ?_
  clear hK
  try simp only [Act.put]
  refine wpAnyT_done (by kernel_rfl) ?_ _
  go_wp2
  go_ret2
  exact ⟨rfl, G.out⟩

set_option maxHeartbeats 6400000 in
set_option maxRecDepth 100000 in
theorem ffloor_zero {w : World} {a0 a1 a2 a3 : Value} {AN AD : Int} {k : Nat} (han : Zi w (.agg #[a0, a1]) AN k) (had : Zi w (.agg #[a2, a3]) AD k) (hD : AD = 0) :
    Calls Try.prog 22 #[.agg #[a0, a1, a2, a3]] w (GivesZ1 4 w 0 k) := by
  have HD := hid hD
  clear hD
  have zan0 := han
  obtain ⟨nan, xan, adan, can, ev, -, -, -⟩ := han
  simp only [Value.agg.injEq] at ev
  obtain ⟨rfl, rfl⟩ := pair_eq ev
  have zad0 := had
  obtain ⟨nad, xad, adad, cad, ev, -, -, -⟩ := had
  simp only [Value.agg.injEq] at ev
  obtain ⟨rfl, rfl⟩ := pair_eq ev
  obtain ⟨W0, hW⟩ : ∃ W0, (w.alloc (.cells #[(.bool nan), (.slice adan xan.length can), (.bool nad), (.slice adad xad.length cad)] 26)).alloc zbox = W0 := ⟨_, rfl⟩
  obtain ⟨b0, sz0⟩ := alloc2 w (.cells #[(.bool nan), (.slice adan xan.length can), (.bool nad), (.slice adad xad.length cad)] 26) zbox
  rw [hW] at b0 sz0
  have Pa : Hid (Cel W0 (w.heap.size) 26 [(.bool nan), (.slice adan xan.length can), (.bool nad), (.slice adad xad.length cad)]) := by unfold Hid; rw [← hW]; exact cel_late (cel_at (by simp)) _
  have PR : Hid (Duo W0 (w.heap.size + 1) (.bool false) (.slice none 0 0)) := by unfold Hid; rw [← hW]; exact duo_at (by simp)
  have Zan := hid (zan0.now b0)
  clear zan0
  have Zad := hid (zad0.now b0)
  clear zad0
  have G := hid b0
  clear b0
  have EW := hid hW
  clear hW
  go_enter Try.func22, Try.ntmps22
  have ca0 := (Pa.out.at (i := 0) rfl)
  have ca1 := (Pa.out.at (i := 1) rfl)
  have ca2 := (Pa.out.at (i := 2) rfl)
  have ca3 := (Pa.out.at (i := 3) rfl)
  rw [← EW.out] at ca0 ca1 ca2 ca3
  go_wp2_with fail
  rw [EW.out]
  clear EW
  clear ca0 ca1 ca2 ca3
  refine (floor_zero Zan.out Zad.out HD.out).mono ?_
  rintro e w1 ⟨r0, r1, rfl, m0, m1, b⟩
  obtain ⟨nq, xq, adq, qq, rfl, -, -, -, -, -⟩ := id m0
  obtain ⟨nr, xr, adr, qr, rfl, -, -, -, -, -⟩ := id m1
  replace Zan := hid (Zan.out.now b)
  replace Zad := hid (Zad.out.now b)
  replace Pa := hid (Pa.out.step b)
  replace PR := hid (PR.out.step b)
  replace G := hid (below_step G.out b)
  have lz2 := (show Below _ _ _ from b).size
  have Zq := hid m0
  have Zr := hid m1
  clear b m0 m1
  obtain ⟨V3, hW⟩ : ∃ V3, (w1.alloc (duo (.bool nq) (.slice adq xq.length qq))).alloc (duo (.bool nr) (.slice adr xr.length qr)) = V3 := ⟨_, rfl⟩
  obtain ⟨kW, sz3⟩ := alloc2 w1 (duo (.bool nq) (.slice adq xq.length qq)) (duo (.bool nr) (.slice adr xr.length qr))
  rw [hW] at kW sz3
  replace Zan := hid (Zan.out.now kW)
  replace Zad := hid (Zad.out.now kW)
  replace Zq := hid (Zq.out.now kW)
  replace Zr := hid (Zr.out.now kW)
  replace Pa := hid (Pa.out.step kW)
  replace PR := hid (PR.out.step kW)
  replace G := hid (below_step G.out kW)
  have lz4 := (show Below _ _ _ from kW).size
  have PQ : Hid (Duo V3 (w1.heap.size) (.bool nq) (.slice adq xq.length qq)) := by unfold Hid; rw [← hW]; exact duo_late (duo_at (by simp)) _
  have PS : Hid (Duo V3 (w1.heap.size + 1) (.bool nr) (.slice adr xr.length qr)) := by unfold Hid; rw [← hW]; exact duo_at (by simp)
  clear kW
  have cQ0 := PQ.out.c0
  have cQ1 := PQ.out.c1
  rw [← hW] at cQ0 cQ1
  have cR0 := PR.out.c0
  have cR1 := PR.out.c1
  rw [← hW] at cR0 cR1
  have fR0 := PR.out.fz 0
  have fR1 := PR.out.fz 1
  rw [← hW] at fR0 fR1
  have EW := hid hW
  clear hW
  go_wp2
  rw [EW.out]
  exact bodyPost_ret (zback1 Try.results22 (PR.out.set _ _) _ (by rfl) (by rfl)) rfl ⟨_, rfl, ((Zq.out.box PR.out _ _).mono (by omega)), bset (bset G.out (by omega)) (by omega)⟩

set_option maxHeartbeats 6400000 in
set_option maxRecDepth 100000 in
theorem ffloor_z {w : World} {a0 a1 a2 a3 : Value} {AN AD : Int} {k : Nat} (han : Zi w (.agg #[a0, a1]) AN k) (had : Zi w (.agg #[a2, a3]) AD k) (hk : k ≤ 17179869184) (hD : AD ≠ 0) :
    Calls Try.prog 22 #[.agg #[a0, a1, a2, a3]] w (GivesZ1 0 w (fdv AN AD) (k + 2)) := by
  have HD := hid hD
  clear hD
  have zan0 := han
  obtain ⟨nan, xan, adan, can, ev, -, -, -⟩ := han
  simp only [Value.agg.injEq] at ev
  obtain ⟨rfl, rfl⟩ := pair_eq ev
  have zad0 := had
  obtain ⟨nad, xad, adad, cad, ev, -, -, -⟩ := had
  simp only [Value.agg.injEq] at ev
  obtain ⟨rfl, rfl⟩ := pair_eq ev
  obtain ⟨W0, hW⟩ : ∃ W0, (w.alloc (.cells #[(.bool nan), (.slice adan xan.length can), (.bool nad), (.slice adad xad.length cad)] 26)).alloc zbox = W0 := ⟨_, rfl⟩
  obtain ⟨b0, sz0⟩ := alloc2 w (.cells #[(.bool nan), (.slice adan xan.length can), (.bool nad), (.slice adad xad.length cad)] 26) zbox
  rw [hW] at b0 sz0
  have Pa : Hid (Cel W0 (w.heap.size) 26 [(.bool nan), (.slice adan xan.length can), (.bool nad), (.slice adad xad.length cad)]) := by unfold Hid; rw [← hW]; exact cel_late (cel_at (by simp)) _
  have PR : Hid (Duo W0 (w.heap.size + 1) (.bool false) (.slice none 0 0)) := by unfold Hid; rw [← hW]; exact duo_at (by simp)
  have Zan := hid (zan0.now b0)
  clear zan0
  have Zad := hid (zad0.now b0)
  clear zad0
  have G := hid b0
  clear b0
  have EW := hid hW
  clear hW
  go_enter Try.func22, Try.ntmps22
  have ca0 := (Pa.out.at (i := 0) rfl)
  have ca1 := (Pa.out.at (i := 1) rfl)
  have ca2 := (Pa.out.at (i := 2) rfl)
  have ca3 := (Pa.out.at (i := 3) rfl)
  rw [← EW.out] at ca0 ca1 ca2 ca3
  go_wp2_with fail
  rw [EW.out]
  clear EW
  clear ca0 ca1 ca2 ca3
  refine (floor_z Zan.out Zad.out HD.out (by omega) (by omega)).mono ?_
  rintro e w1 ⟨r0, r1, rfl, m0, m1, b⟩
  obtain ⟨nq, xq, adq, qq, rfl, -, -, -, -, -⟩ := id m0
  obtain ⟨nr, xr, adr, qr, rfl, -, -, -, -, -⟩ := id m1
  replace Zan := hid (Zan.out.now b)
  replace Zad := hid (Zad.out.now b)
  replace Pa := hid (Pa.out.step b)
  replace PR := hid (PR.out.step b)
  replace G := hid (below_step G.out b)
  have lz2 := (show Below _ _ _ from b).size
  have Zq := hid m0
  have Zr := hid m1
  clear b m0 m1
  obtain ⟨V3, hW⟩ : ∃ V3, (w1.alloc (duo (.bool nq) (.slice adq xq.length qq))).alloc (duo (.bool nr) (.slice adr xr.length qr)) = V3 := ⟨_, rfl⟩
  obtain ⟨kW, sz3⟩ := alloc2 w1 (duo (.bool nq) (.slice adq xq.length qq)) (duo (.bool nr) (.slice adr xr.length qr))
  rw [hW] at kW sz3
  replace Zan := hid (Zan.out.now kW)
  replace Zad := hid (Zad.out.now kW)
  replace Zq := hid (Zq.out.now kW)
  replace Zr := hid (Zr.out.now kW)
  replace Pa := hid (Pa.out.step kW)
  replace PR := hid (PR.out.step kW)
  replace G := hid (below_step G.out kW)
  have lz4 := (show Below _ _ _ from kW).size
  have PQ : Hid (Duo V3 (w1.heap.size) (.bool nq) (.slice adq xq.length qq)) := by unfold Hid; rw [← hW]; exact duo_late (duo_at (by simp)) _
  have PS : Hid (Duo V3 (w1.heap.size + 1) (.bool nr) (.slice adr xr.length qr)) := by unfold Hid; rw [← hW]; exact duo_at (by simp)
  clear kW
  have cQ0 := PQ.out.c0
  have cQ1 := PQ.out.c1
  rw [← hW] at cQ0 cQ1
  have cR0 := PR.out.c0
  have cR1 := PR.out.c1
  rw [← hW] at cR0 cR1
  have fR0 := PR.out.fz 0
  have fR1 := PR.out.fz 1
  rw [← hW] at fR0 fR1
  have EW := hid hW
  clear hW
  go_wp2
  rw [EW.out]
  exact bodyPost_ret (zback1 Try.results22 (PR.out.set _ _) _ (by rfl) (by rfl)) rfl ⟨_, rfl, ((Zq.out.box PR.out _ _).mono (by omega)).more (by omega), bset (bset G.out (by omega)) (by omega)⟩

set_option maxHeartbeats 6400000 in
set_option maxRecDepth 100000 in
theorem fnear_zero {w : World} {a0 a1 a2 a3 : Value} {AN AD : Int} {k : Nat} (han : Zi w (.agg #[a0, a1]) AN k) (had : Zi w (.agg #[a2, a3]) AD k) (hk : k ≤ 17179869184) (hD : AD = 0) :
    Calls Try.prog 23 #[.agg #[a0, a1, a2, a3]] w (GivesZ1 4 w 0 k) := by
  have HD := hid hD
  clear hD
  have zan0 := han
  obtain ⟨nan, xan, adan, can, ev, -, -, -⟩ := han
  simp only [Value.agg.injEq] at ev
  obtain ⟨rfl, rfl⟩ := pair_eq ev
  have zad0 := had
  obtain ⟨nad, xad, adad, cad, ev, -, -, -⟩ := had
  simp only [Value.agg.injEq] at ev
  obtain ⟨rfl, rfl⟩ := pair_eq ev
  obtain ⟨W0, hW⟩ : ∃ W0, (w.alloc (.cells #[(.bool nan), (.slice adan xan.length can), (.bool nad), (.slice adad xad.length cad)] 26)).alloc zbox = W0 := ⟨_, rfl⟩
  obtain ⟨b0, sz0⟩ := alloc2 w (.cells #[(.bool nan), (.slice adan xan.length can), (.bool nad), (.slice adad xad.length cad)] 26) zbox
  rw [hW] at b0 sz0
  have Pa : Hid (Cel W0 (w.heap.size) 26 [(.bool nan), (.slice adan xan.length can), (.bool nad), (.slice adad xad.length cad)]) := by unfold Hid; rw [← hW]; exact cel_late (cel_at (by simp)) _
  have PR : Hid (Duo W0 (w.heap.size + 1) (.bool false) (.slice none 0 0)) := by unfold Hid; rw [← hW]; exact duo_at (by simp)
  have Zan := hid (zan0.now b0)
  clear zan0
  have Zad := hid (zad0.now b0)
  clear zad0
  have G := hid b0
  clear b0
  have EW := hid hW
  clear hW
  go_enter Try.func23, Try.ntmps23
  have ca0 := (Pa.out.at (i := 0) rfl)
  have ca1 := (Pa.out.at (i := 1) rfl)
  have ca2 := (Pa.out.at (i := 2) rfl)
  have ca3 := (Pa.out.at (i := 3) rfl)
  rw [← EW.out] at ca0 ca1 ca2 ca3
  go_wp2_with fail
  rw [EW.out]
  clear EW
  clear ca0 ca1 ca2 ca3
  refine (floor_zero Zan.out Zad.out HD.out).mono ?_
  rintro e w1 ⟨r0, r1, rfl, m0, m1, b⟩
  obtain ⟨nq, xq, adq, qq, rfl, -, -, -, -, -⟩ := id m0
  obtain ⟨nr, xr, adr, qr, rfl, -, -, -, -, -⟩ := id m1
  replace Zan := hid (Zan.out.now b)
  replace Zad := hid (Zad.out.now b)
  replace Pa := hid (Pa.out.step b)
  replace PR := hid (PR.out.step b)
  replace G := hid (below_step G.out b)
  have lz2 := (show Below _ _ _ from b).size
  have Zq := hid m0
  have Zr := hid m1
  clear b m0 m1
  obtain ⟨V3, hW⟩ : ∃ V3, (w1.alloc (duo (.bool nq) (.slice adq xq.length qq))).alloc (duo (.bool nr) (.slice adr xr.length qr)) = V3 := ⟨_, rfl⟩
  obtain ⟨kW, sz3⟩ := alloc2 w1 (duo (.bool nq) (.slice adq xq.length qq)) (duo (.bool nr) (.slice adr xr.length qr))
  rw [hW] at kW sz3
  replace Zan := hid (Zan.out.now kW)
  replace Zad := hid (Zad.out.now kW)
  replace Zq := hid (Zq.out.now kW)
  replace Zr := hid (Zr.out.now kW)
  replace Pa := hid (Pa.out.step kW)
  replace PR := hid (PR.out.step kW)
  replace G := hid (below_step G.out kW)
  have lz4 := (show Below _ _ _ from kW).size
  have PQ : Hid (Duo V3 (w1.heap.size) (.bool nq) (.slice adq xq.length qq)) := by unfold Hid; rw [← hW]; exact duo_late (duo_at (by simp)) _
  have PS : Hid (Duo V3 (w1.heap.size + 1) (.bool nr) (.slice adr xr.length qr)) := by unfold Hid; rw [← hW]; exact duo_at (by simp)
  clear kW
  have cR0 := PR.out.c0
  have cR1 := PR.out.c1
  rw [← hW] at cR0 cR1
  have fR0 := PR.out.fz 0
  have fR1 := PR.out.fz 1
  rw [← hW] at fR0 fR1
  have EW := hid hW
  clear hW
  go_wp2
  rw [EW.out]
  exact bodyPost_ret (zback1 Try.results23 (PR.out.set _ _) _ (by rfl) (by rfl)) rfl ⟨_, rfl, zm_nil _ _ _, bset (bset G.out (by omega)) (by omega)⟩

set_option maxHeartbeats 6400000 in
set_option maxRecDepth 100000 in
theorem fnear_big {w : World} {a0 a1 a2 a3 : Value} {AN AD : Int} {k : Nat} (han : Zi w (.agg #[a0, a1]) AN k) (had : Zi w (.agg #[a2, a3]) AD k) (hk : k ≤ 17179869184) (hD : AD ≠ 0) (hh : (AD.natAbs : Int) < ((fmd AN AD + fmd AN AD).natAbs : Int)) :
    Calls Try.prog 23 #[.agg #[a0, a1, a2, a3]] w (fun e w' => ∃ m, Nr AN AD m ∧ GivesZ1 0 w m (k + 3) e w') := by
  have HC : Hid (∀ w' v u l, Zi w' v (fmd AN AD + fmd AN AD) l → Zi w' u AD k → Calls Try.prog 42 #[v, u] w' fun e w'' => e = .returned (.int .i64 1) ∧ Below w'.heap.size w' w'') := fun w' v u l h h' => by
    have q := cmpAbs_z h h'
    rw [show cmpI ((fmd AN AD + fmd AN AD).natAbs : Int) (AD.natAbs : Int) = 1 from cmpI_gt hh] at q
    exact q
  have NR := hid (near_up hD hh)
  have hh' := hid hh
  clear hh
  have HD := hid hD
  clear hD
  have zan0 := han
  obtain ⟨nan, xan, adan, can, ev, -, -, -⟩ := han
  simp only [Value.agg.injEq] at ev
  obtain ⟨rfl, rfl⟩ := pair_eq ev
  have zad0 := had
  obtain ⟨nad, xad, adad, cad, ev, -, -, -⟩ := had
  simp only [Value.agg.injEq] at ev
  obtain ⟨rfl, rfl⟩ := pair_eq ev
  obtain ⟨W0, hW⟩ : ∃ W0, (w.alloc (.cells #[(.bool nan), (.slice adan xan.length can), (.bool nad), (.slice adad xad.length cad)] 26)).alloc zbox = W0 := ⟨_, rfl⟩
  obtain ⟨b0, sz0⟩ := alloc2 w (.cells #[(.bool nan), (.slice adan xan.length can), (.bool nad), (.slice adad xad.length cad)] 26) zbox
  rw [hW] at b0 sz0
  have Pa : Hid (Cel W0 (w.heap.size) 26 [(.bool nan), (.slice adan xan.length can), (.bool nad), (.slice adad xad.length cad)]) := by unfold Hid; rw [← hW]; exact cel_late (cel_at (by simp)) _
  have PR : Hid (Duo W0 (w.heap.size + 1) (.bool false) (.slice none 0 0)) := by unfold Hid; rw [← hW]; exact duo_at (by simp)
  have Zan := hid (zan0.now b0)
  clear zan0
  have Zad := hid (zad0.now b0)
  clear zad0
  have G := hid b0
  clear b0
  have EW := hid hW
  clear hW
  go_enter Try.func23, Try.ntmps23
  have ca0 := (Pa.out.at (i := 0) rfl)
  have ca1 := (Pa.out.at (i := 1) rfl)
  have ca2 := (Pa.out.at (i := 2) rfl)
  have ca3 := (Pa.out.at (i := 3) rfl)
  rw [← EW.out] at ca0 ca1 ca2 ca3
  go_wp2_with fail
  rw [EW.out]
  clear EW
  clear ca0 ca1 ca2 ca3
  refine (floor_z Zan.out Zad.out HD.out (by omega) (by omega)).mono ?_
  rintro e w1 ⟨r0, r1, rfl, m0, m1, b⟩
  obtain ⟨nq, xq, adq, qq, rfl, -, -, -, -, -⟩ := id m0
  obtain ⟨nr, xr, adr, qr, rfl, -, -, -, -, -⟩ := id m1
  replace Zan := hid (Zan.out.now b)
  replace Zad := hid (Zad.out.now b)
  replace Pa := hid (Pa.out.step b)
  replace PR := hid (PR.out.step b)
  replace G := hid (below_step G.out b)
  have lz2 := (show Below _ _ _ from b).size
  have Zq := hid m0
  have Zr := hid m1
  clear b m0 m1
  obtain ⟨V3, hW⟩ : ∃ V3, (w1.alloc (duo (.bool nq) (.slice adq xq.length qq))).alloc (duo (.bool nr) (.slice adr xr.length qr)) = V3 := ⟨_, rfl⟩
  obtain ⟨kW, sz3⟩ := alloc2 w1 (duo (.bool nq) (.slice adq xq.length qq)) (duo (.bool nr) (.slice adr xr.length qr))
  rw [hW] at kW sz3
  replace Zan := hid (Zan.out.now kW)
  replace Zad := hid (Zad.out.now kW)
  replace Zq := hid (Zq.out.now kW)
  replace Zr := hid (Zr.out.now kW)
  replace Pa := hid (Pa.out.step kW)
  replace PR := hid (PR.out.step kW)
  replace G := hid (below_step G.out kW)
  have lz4 := (show Below _ _ _ from kW).size
  have PQ : Hid (Duo V3 (w1.heap.size) (.bool nq) (.slice adq xq.length qq)) := by unfold Hid; rw [← hW]; exact duo_late (duo_at (by simp)) _
  have PS : Hid (Duo V3 (w1.heap.size + 1) (.bool nr) (.slice adr xr.length qr)) := by unfold Hid; rw [← hW]; exact duo_at (by simp)
  clear kW
  have EW := hid hW
  clear hW
  go_wp2_with fail
  rw [EW.out]
  clear EW
  refine wp_region_tail (fun w' => w'.cell? ⟨w1.heap.size + 1, 0, none⟩ = some (.bool nr) ∧ w'.cell? ⟨w1.heap.size + 1, 1, none⟩ = some (.slice adr xr.length qr) ∧ w'.cell? ⟨w.heap.size, 0, none⟩ = some (.bool nan) ∧ w'.cell? ⟨w.heap.size, 1, none⟩ = some (.slice adan xan.length can) ∧ w'.cell? ⟨w.heap.size, 2, none⟩ = some (.bool nad) ∧ w'.cell? ⟨w.heap.size, 3, none⟩ = some (.slice adad xad.length cad)) 6 (by kernel_rfl) ?_
  obtain ⟨D5, hD⟩ : ∃ D5, V3.drew = D5 := ⟨_, rfl⟩
  have b : Below V3.heap.size V3 D5 := by rw [← hD]; exact (Below.refl _ _).drew
  rw [hD]
  clear hD
  replace Zan := hid (Zan.out.now b)
  replace Zad := hid (Zad.out.now b)
  replace Zq := hid (Zq.out.now b)
  replace Zr := hid (Zr.out.now b)
  replace Pa := hid (Pa.out.step b)
  replace PR := hid (PR.out.step b)
  replace PQ := hid (PQ.out.step b)
  replace PS := hid (PS.out.step b)
  replace G := hid (below_step G.out b)
  have lz6 := (show Below _ _ _ from b).size
  clear b
  refine wpAnyT_take (i := 0) (oi := { dst := some 21, op := Op.load 24 (Operand.tmp 5), type := 24, pos := "frac.go:75", after := #[], guard := none }) (v := (.agg #[(.bool nr), (.slice adr xr.length qr)])) rfl (by kernel_rfl) (fun _ _ _ h => h) (Or.inl ⟨by rfl, ?_⟩) ⟨PS.out.c0, PS.out.c1, (Pa.out.at (i := 0) rfl), (Pa.out.at (i := 1) rfl), (Pa.out.at (i := 2) rfl), (Pa.out.at (i := 3) rfl)⟩ ?_
  · intro w hSw
    (try dsimp only at hSw)
    go_simp
  simp only [Act.put, List.setIfInBounds_toArray, List.set_cons_zero, List.set_cons_succ]
  refine wpAnyT_take (i := 1) (oi := { dst := some 22, op := Op.load 24 (Operand.tmp 5), type := 24, pos := "frac.go:75", after := #[], guard := none }) (v := (.agg #[(.bool nr), (.slice adr xr.length qr)])) rfl (by kernel_rfl) (fun _ _ _ h => h) (Or.inl ⟨by rfl, ?_⟩) ⟨PS.out.c0, PS.out.c1, (Pa.out.at (i := 0) rfl), (Pa.out.at (i := 1) rfl), (Pa.out.at (i := 2) rfl), (Pa.out.at (i := 3) rfl)⟩ ?_
  · intro w hSw
    (try dsimp only at hSw)
    go_simp
  simp only [Act.put, List.setIfInBounds_toArray, List.set_cons_zero, List.set_cons_succ]
  refine wpAnyT_take (i := 3) (oi := { dst := some 24, op := Op.fieldAddr 26 (Operand.tmp 1) 1, type := 0, pos := "frac.go:75", after := #[], guard := none }) (v := (.pointer (some ⟨w.heap.size, 2, none⟩))) rfl (by kernel_rfl) (fun _ _ _ h => h) (Or.inl ⟨by rfl, ?_⟩) ⟨PS.out.c0, PS.out.c1, (Pa.out.at (i := 0) rfl), (Pa.out.at (i := 1) rfl), (Pa.out.at (i := 2) rfl), (Pa.out.at (i := 3) rfl)⟩ ?_
  · intro w hSw
    (try dsimp only at hSw)
    go_simp
  simp only [Act.put, List.setIfInBounds_toArray, List.set_cons_zero, List.set_cons_succ]
  refine wpAnyT_take (i := 4) (oi := { dst := some 25, op := Op.load 24 (Operand.tmp 24), type := 24, pos := "frac.go:75", after := #[{ on := 3, ground := Ground.data }], guard := none }) (v := (.agg #[(.bool nad), (.slice adad xad.length cad)])) rfl (by kernel_rfl) (fun _ _ _ h => h) (Or.inl ⟨by rfl, ?_⟩) ⟨PS.out.c0, PS.out.c1, (Pa.out.at (i := 0) rfl), (Pa.out.at (i := 1) rfl), (Pa.out.at (i := 2) rfl), (Pa.out.at (i := 3) rfl)⟩ ?_
  · intro w hSw
    (try dsimp only at hSw)
    go_simp
  simp only [Act.put, List.setIfInBounds_toArray, List.set_cons_zero, List.set_cons_succ]
  refine wpAnyT_one (i := 2) (o := { dst := some 23, op := Op.call { callee := Callee.value (Operand.func 17), args := #[Operand.tmp 21, Operand.tmp 22], argTypes := #[24, 24] }, type := 24, pos := "frac.go:75", after := #[{ on := 0, ground := Ground.data }, { on := 1, ground := Ground.data }], guard := none }) (by kernel_rfl) rfl (fun K hK => ?_)
  go_simp
  go_at_call 17
  refine (add_z Zr.out.zi Zr.out.zi (by omega) (by omega)).mono ?_
  rintro e w7 ⟨r0, rfl, m0, b⟩
  obtain ⟨nt, xt, adt, qt, rfl, -, -, -, -, -⟩ := id m0
  replace Zan := hid (Zan.out.now b)
  replace Zad := hid (Zad.out.now b)
  replace Zq := hid (Zq.out.now b)
  replace Zr := hid (Zr.out.now b)
  replace Pa := hid (Pa.out.step b)
  replace PR := hid (PR.out.step b)
  replace PQ := hid (PQ.out.step b)
  replace PS := hid (PS.out.step b)
  replace G := hid (below_step G.out b)
  have lz8 := (show Below _ _ _ from b).size
  have Zt := hid m0
  clear b m0
  refine hK.out _ _ (fun _ => ⟨PS.out.c0, PS.out.c1, (Pa.out.at (i := 0) rfl), (Pa.out.at (i := 1) rfl), (Pa.out.at (i := 2) rfl), (Pa.out.at (i := 3) rfl)⟩) ?_
  clear hK
  refine wpAnyT_one (i := 5) (o := { dst := some 26, op := Op.call { callee := Callee.value (Operand.func 42), args := #[Operand.tmp 23, Operand.tmp 25], argTypes := #[24, 24] }, type := 3, pos := "frac.go:75", after := #[{ on := 2, ground := Ground.data }, { on := 4, ground := Ground.data }, { on := 2, ground := Ground.chain }], guard := none }) (by kernel_rfl) rfl (fun K hK => ?_)
  go_simp
  go_at_call 42
  refine (HC.out _ _ _ _ Zt.out.zi Zad.out).mono ?_
  rintro e w9 ⟨rfl, b⟩
  replace Zan := hid (Zan.out.now b)
  replace Zad := hid (Zad.out.now b)
  replace Zq := hid (Zq.out.now b)
  replace Zr := hid (Zr.out.now b)
  replace Zt := hid (Zt.out.now b)
  replace Pa := hid (Pa.out.step b)
  replace PR := hid (PR.out.step b)
  replace PQ := hid (PQ.out.step b)
  replace PS := hid (PS.out.step b)
  replace G := hid (below_step G.out b)
  have lz10 := (show Below _ _ _ from b).size
  clear b 
  refine hK.out _ _ (fun _ => ⟨PS.out.c0, PS.out.c1, (Pa.out.at (i := 0) rfl), (Pa.out.at (i := 1) rfl), (Pa.out.at (i := 2) rfl), (Pa.out.at (i := 3) rfl)⟩) ?_
  clear hK
  refine wpAnyT_one (i := 6) (o := { dst := some 7, op := Op.assign (Operand.tmp 26), type := 3, pos := "frac.go:75", after := #[{ on := 5, ground := Ground.data }, { on := 5, ground := Ground.chain }, { on := 0, ground := Ground.phase }, { on := 1, ground := Ground.phase }, { on := 2, ground := Ground.phase }, { on := 3, ground := Ground.phase }, { on := 4, ground := Ground.phase }, { on := 5, ground := Ground.phase }], guard := none }) (by kernel_rfl) rfl (fun K hK => ?_)
  go_simp
  refine hK.out _ _ (fun h => absurd h (by decide)) ?_
  clear hK
  try simp only [Act.put]
  refine wpAnyT_done (by kernel_rfl) ?_ _
  clear Zt
  go_wp2_with fail
  refine wp_region_tail (fun w' => w'.cell? ⟨w1.heap.size, 0, none⟩ = some (.bool nq) ∧ w'.cell? ⟨w1.heap.size, 1, none⟩ = some (.slice adq xq.length qq)) 3 (by kernel_rfl) ?_
  obtain ⟨D11, hD⟩ : ∃ D11, w9.drew = D11 := ⟨_, rfl⟩
  have b : Below w9.heap.size w9 D11 := by rw [← hD]; exact (Below.refl _ _).drew
  rw [hD]
  clear hD
  replace Zan := hid (Zan.out.now b)
  replace Zad := hid (Zad.out.now b)
  replace Zq := hid (Zq.out.now b)
  replace Zr := hid (Zr.out.now b)
  replace Pa := hid (Pa.out.step b)
  replace PR := hid (PR.out.step b)
  replace PQ := hid (PQ.out.step b)
  replace PS := hid (PS.out.step b)
  replace G := hid (below_step G.out b)
  have lz12 := (show Below _ _ _ from b).size
  clear b
  refine wpAnyT_take (i := 0) (oi := { dst := some 39, op := Op.load 24 (Operand.tmp 4), type := 24, pos := "frac.go:77", after := #[], guard := none }) (v := (.agg #[(.bool nq), (.slice adq xq.length qq)])) rfl (by kernel_rfl) (fun _ _ _ h => h) (Or.inl ⟨by rfl, ?_⟩) ⟨PQ.out.c0, PQ.out.c1⟩ ?_
  · intro w hSw
    (try dsimp only at hSw)
    go_simp
  simp only [Act.put, List.setIfInBounds_toArray, List.set_cons_zero, List.set_cons_succ]
  refine wpAnyT_one (i := 1) (o := { dst := some 40, op := Op.call { callee := Callee.value (Operand.func 20), args := #[Operand.const (Value.int IntKind.i64 1)], argTypes := #[2] }, type := 24, pos := "frac.go:77", after := #[], guard := none }) (by kernel_rfl) rfl (fun K hK => ?_)
  go_simp
  go_at_call 20
  refine (of_z (n := 1) (by decide) (by decide) _).mono ?_
  rintro e w13 ⟨r0, rfl, m0, b⟩
  obtain ⟨nu, xu, adu, qu, rfl, -, -, -, -, -⟩ := id m0
  replace Zan := hid (Zan.out.now b)
  replace Zad := hid (Zad.out.now b)
  replace Zq := hid (Zq.out.now b)
  replace Zr := hid (Zr.out.now b)
  replace Pa := hid (Pa.out.step b)
  replace PR := hid (PR.out.step b)
  replace PQ := hid (PQ.out.step b)
  replace PS := hid (PS.out.step b)
  replace G := hid (below_step G.out b)
  have lz14 := (show Below _ _ _ from b).size
  have Zu := hid m0
  clear b m0
  refine hK.out _ _ (fun _ => ⟨PQ.out.c0, PQ.out.c1⟩) ?_
  clear hK
  refine wpAnyT_one (i := 2) (o := { dst := some 41, op := Op.call { callee := Callee.value (Operand.func 17), args := #[Operand.tmp 39, Operand.tmp 40], argTypes := #[24, 24] }, type := 24, pos := "frac.go:77", after := #[{ on := 0, ground := Ground.data }, { on := 1, ground := Ground.data }, { on := 1, ground := Ground.chain }], guard := none }) (by kernel_rfl) rfl (fun K hK => ?_)
  go_simp
  go_at_call 17
  refine (add_z Zq.out.zi Zu.out.zi (by omega) (by omega)).mono ?_
  rintro e w15 ⟨r0, rfl, m0, b⟩
  obtain ⟨nv, xv, adv, qv, rfl, -, -, -, -, -⟩ := id m0
  replace Zan := hid (Zan.out.now b)
  replace Zad := hid (Zad.out.now b)
  replace Zq := hid (Zq.out.now b)
  replace Zr := hid (Zr.out.now b)
  replace Zu := hid (Zu.out.now b)
  replace Pa := hid (Pa.out.step b)
  replace PR := hid (PR.out.step b)
  replace PQ := hid (PQ.out.step b)
  replace PS := hid (PS.out.step b)
  replace G := hid (below_step G.out b)
  have lz16 := (show Below _ _ _ from b).size
  have Zv := hid m0
  clear b m0
  refine hK.out _ _ (fun _ => ⟨PQ.out.c0, PQ.out.c1⟩) ?_
  clear hK
  refine wpAnyT_one (i := 3) (o := { dst := none, op := Op.store 24 (Operand.tmp 2) (Operand.tmp 41), type := 0, pos := "frac.go:77", after := #[{ on := 2, ground := Ground.data }, { on := 2, ground := Ground.chain }, { on := 0, ground := Ground.phase }, { on := 1, ground := Ground.phase }, { on := 2, ground := Ground.phase }], guard := none }) (by kernel_rfl) rfl (fun K hK => ?_)
  have cR0 := PR.out.c0
  have cR1 := PR.out.c1
  have fR0 := PR.out.fz 0
  have fR1 := PR.out.fz 1
  go_simp
  clear cR0 cR1 fR0 fR1
  obtain ⟨V17, hW⟩ : ∃ V17, (w15.setCell ⟨w.heap.size + 1, 0, none⟩ (.bool nv)).setCell ⟨w.heap.size + 1, 1, none⟩ (.slice adv xv.length qv) = V17 := ⟨_, rfl⟩
  replace Zan := hid ((Zan.out).wk ((PR.out).wk (.bool nv) (.slice adv xv.length qv)))
  replace Zad := hid ((Zad.out).wk ((PR.out).wk (.bool nv) (.slice adv xv.length qv)))
  replace Zq := hid ((Zq.out).box (PR.out) (.bool nv) (.slice adv xv.length qv))
  replace Zr := hid ((Zr.out).box (PR.out) (.bool nv) (.slice adv xv.length qv))
  replace Zu := hid ((Zu.out).box (PR.out) (.bool nv) (.slice adv xv.length qv))
  replace Zv := hid ((Zv.out).box (PR.out) (.bool nv) (.slice adv xv.length qv))
  replace Pa := hid ((Pa.out).away2 (b' := w.heap.size + 1) (by omega) (.bool nv) (.slice adv xv.length qv))
  replace PR := hid ((PR.out).set (.bool nv) (.slice adv xv.length qv))
  replace PQ := hid ((PQ.out).box (b' := w.heap.size + 1) (by omega) (.bool nv) (.slice adv xv.length qv))
  replace PS := hid ((PS.out).box (b' := w.heap.size + 1) (by omega) (.bool nv) (.slice adv xv.length qv))
  replace G : Hid (Below w.heap.size w (((w15.setCell ⟨w.heap.size + 1, 0, none⟩ (.bool nv)).setCell ⟨w.heap.size + 1, 1, none⟩ (.slice adv xv.length qv)))) := bset (bset (G.out) (by omega)) (by omega)
  have sz17 : V17.heap.size = w15.heap.size := by rw [← hW]; simp
  rw [hW] at Zan Zad Zq Zr Zu Zv Pa PR PQ PS G
  rw [hW]
  clear hW
  refine hK.out _ _ (fun h => absurd h (by decide)) ?_
  clear hK
  try simp only [Act.put]
  refine wpAnyT_one (i := 4) (o := { dst := some 3, op := Op.assign (Operand.const (Value.int IntKind.i64 0)), type := 28, pos := "frac.go:77", after := #[{ on := 3, ground := Ground.chain }, { on := 0, ground := Ground.phase }, { on := 1, ground := Ground.phase }, { on := 2, ground := Ground.phase }, { on := 3, ground := Ground.phase }], guard := none }) (by kernel_rfl) rfl (fun K hK => ?_)
  go_simp
  refine hK.out _ _ (fun h => absurd h (by decide)) ?_
  clear hK
  try simp only [Act.put]
  refine wpAnyT_done (by kernel_rfl) ?_ _
  go_wp2
  exact bodyPost_ret (zback1 Try.results23 PR.out _ (by rfl) (by rfl)) rfl ⟨_, NR.out, _, rfl, (Zv.out.mono (by omega)).more (by omega), G.out⟩

set_option maxHeartbeats 6400000 in
set_option maxRecDepth 100000 in
theorem fnear_odd {w : World} {a0 a1 a2 a3 : Value} {AN AD : Int} {k : Nat} (han : Zi w (.agg #[a0, a1]) AN k) (had : Zi w (.agg #[a2, a3]) AD k) (hk : k ≤ 17179869184) (hD : AD ≠ 0) (hh : ((fmd AN AD + fmd AN AD).natAbs : Int) = (AD.natAbs : Int)) (ho : (fdv AN AD).natAbs % 2 = 1) :
    Calls Try.prog 23 #[.agg #[a0, a1, a2, a3]] w (fun e w' => ∃ m, Nr AN AD m ∧ GivesZ1 0 w m (k + 3) e w') := by
  have HC : Hid (∀ w' v u l, Zi w' v (fmd AN AD + fmd AN AD) l → Zi w' u AD k → Calls Try.prog 42 #[v, u] w' fun e w'' => e = .returned (.int .i64 0) ∧ Below w'.heap.size w' w'') := fun w' v u l h h' => by
    have q := cmpAbs_z h h'
    rw [show cmpI ((fmd AN AD + fmd AN AD).natAbs : Int) (AD.natAbs : Int) = 0 from (by rw [hh]; exact cmpI_self _)] at q
    exact q
  have NR := hid (near_tie_odd hD hh ho)
  have HB : Hid (∀ w' x0 x1 l, Zi w' (.agg #[x0, x1]) (fdv AN AD) l → Calls Try.prog 47 #[x1, .int .i64 0] w' fun e w'' => e = .returned (.int .i64 1) ∧ Below w'.heap.size w' w'') := fun w' x0 x1 l h => by
    have q := bit0_z h
    rw [ho] at q
    exact q
  have ho' := hid ho
  clear ho
  have hh' := hid hh
  clear hh
  have HD := hid hD
  clear hD
  have zan0 := han
  obtain ⟨nan, xan, adan, can, ev, -, -, -⟩ := han
  simp only [Value.agg.injEq] at ev
  obtain ⟨rfl, rfl⟩ := pair_eq ev
  have zad0 := had
  obtain ⟨nad, xad, adad, cad, ev, -, -, -⟩ := had
  simp only [Value.agg.injEq] at ev
  obtain ⟨rfl, rfl⟩ := pair_eq ev
  obtain ⟨W0, hW⟩ : ∃ W0, (w.alloc (.cells #[(.bool nan), (.slice adan xan.length can), (.bool nad), (.slice adad xad.length cad)] 26)).alloc zbox = W0 := ⟨_, rfl⟩
  obtain ⟨b0, sz0⟩ := alloc2 w (.cells #[(.bool nan), (.slice adan xan.length can), (.bool nad), (.slice adad xad.length cad)] 26) zbox
  rw [hW] at b0 sz0
  have Pa : Hid (Cel W0 (w.heap.size) 26 [(.bool nan), (.slice adan xan.length can), (.bool nad), (.slice adad xad.length cad)]) := by unfold Hid; rw [← hW]; exact cel_late (cel_at (by simp)) _
  have PR : Hid (Duo W0 (w.heap.size + 1) (.bool false) (.slice none 0 0)) := by unfold Hid; rw [← hW]; exact duo_at (by simp)
  have Zan := hid (zan0.now b0)
  clear zan0
  have Zad := hid (zad0.now b0)
  clear zad0
  have G := hid b0
  clear b0
  have EW := hid hW
  clear hW
  go_enter Try.func23, Try.ntmps23
  have ca0 := (Pa.out.at (i := 0) rfl)
  have ca1 := (Pa.out.at (i := 1) rfl)
  have ca2 := (Pa.out.at (i := 2) rfl)
  have ca3 := (Pa.out.at (i := 3) rfl)
  rw [← EW.out] at ca0 ca1 ca2 ca3
  go_wp2_with fail
  rw [EW.out]
  clear EW
  clear ca0 ca1 ca2 ca3
  refine (floor_z Zan.out Zad.out HD.out (by omega) (by omega)).mono ?_
  rintro e w1 ⟨r0, r1, rfl, m0, m1, b⟩
  obtain ⟨nq, xq, adq, qq, rfl, -, -, -, -, -⟩ := id m0
  obtain ⟨nr, xr, adr, qr, rfl, -, -, -, -, -⟩ := id m1
  replace Zan := hid (Zan.out.now b)
  replace Zad := hid (Zad.out.now b)
  replace Pa := hid (Pa.out.step b)
  replace PR := hid (PR.out.step b)
  replace G := hid (below_step G.out b)
  have lz2 := (show Below _ _ _ from b).size
  have Zq := hid m0
  have Zr := hid m1
  clear b m0 m1
  obtain ⟨V3, hW⟩ : ∃ V3, (w1.alloc (duo (.bool nq) (.slice adq xq.length qq))).alloc (duo (.bool nr) (.slice adr xr.length qr)) = V3 := ⟨_, rfl⟩
  obtain ⟨kW, sz3⟩ := alloc2 w1 (duo (.bool nq) (.slice adq xq.length qq)) (duo (.bool nr) (.slice adr xr.length qr))
  rw [hW] at kW sz3
  replace Zan := hid (Zan.out.now kW)
  replace Zad := hid (Zad.out.now kW)
  replace Zq := hid (Zq.out.now kW)
  replace Zr := hid (Zr.out.now kW)
  replace Pa := hid (Pa.out.step kW)
  replace PR := hid (PR.out.step kW)
  replace G := hid (below_step G.out kW)
  have lz4 := (show Below _ _ _ from kW).size
  have PQ : Hid (Duo V3 (w1.heap.size) (.bool nq) (.slice adq xq.length qq)) := by unfold Hid; rw [← hW]; exact duo_late (duo_at (by simp)) _
  have PS : Hid (Duo V3 (w1.heap.size + 1) (.bool nr) (.slice adr xr.length qr)) := by unfold Hid; rw [← hW]; exact duo_at (by simp)
  clear kW
  have EW := hid hW
  clear hW
  go_wp2_with fail
  rw [EW.out]
  clear EW
  refine wp_region_tail (fun w' => w'.cell? ⟨w1.heap.size + 1, 0, none⟩ = some (.bool nr) ∧ w'.cell? ⟨w1.heap.size + 1, 1, none⟩ = some (.slice adr xr.length qr) ∧ w'.cell? ⟨w.heap.size, 0, none⟩ = some (.bool nan) ∧ w'.cell? ⟨w.heap.size, 1, none⟩ = some (.slice adan xan.length can) ∧ w'.cell? ⟨w.heap.size, 2, none⟩ = some (.bool nad) ∧ w'.cell? ⟨w.heap.size, 3, none⟩ = some (.slice adad xad.length cad)) 6 (by kernel_rfl) ?_
  obtain ⟨D5, hD⟩ : ∃ D5, V3.drew = D5 := ⟨_, rfl⟩
  have b : Below V3.heap.size V3 D5 := by rw [← hD]; exact (Below.refl _ _).drew
  rw [hD]
  clear hD
  replace Zan := hid (Zan.out.now b)
  replace Zad := hid (Zad.out.now b)
  replace Zq := hid (Zq.out.now b)
  replace Zr := hid (Zr.out.now b)
  replace Pa := hid (Pa.out.step b)
  replace PR := hid (PR.out.step b)
  replace PQ := hid (PQ.out.step b)
  replace PS := hid (PS.out.step b)
  replace G := hid (below_step G.out b)
  have lz6 := (show Below _ _ _ from b).size
  clear b
  refine wpAnyT_take (i := 0) (oi := { dst := some 21, op := Op.load 24 (Operand.tmp 5), type := 24, pos := "frac.go:75", after := #[], guard := none }) (v := (.agg #[(.bool nr), (.slice adr xr.length qr)])) rfl (by kernel_rfl) (fun _ _ _ h => h) (Or.inl ⟨by rfl, ?_⟩) ⟨PS.out.c0, PS.out.c1, (Pa.out.at (i := 0) rfl), (Pa.out.at (i := 1) rfl), (Pa.out.at (i := 2) rfl), (Pa.out.at (i := 3) rfl)⟩ ?_
  · intro w hSw
    (try dsimp only at hSw)
    go_simp
  simp only [Act.put, List.setIfInBounds_toArray, List.set_cons_zero, List.set_cons_succ]
  refine wpAnyT_take (i := 1) (oi := { dst := some 22, op := Op.load 24 (Operand.tmp 5), type := 24, pos := "frac.go:75", after := #[], guard := none }) (v := (.agg #[(.bool nr), (.slice adr xr.length qr)])) rfl (by kernel_rfl) (fun _ _ _ h => h) (Or.inl ⟨by rfl, ?_⟩) ⟨PS.out.c0, PS.out.c1, (Pa.out.at (i := 0) rfl), (Pa.out.at (i := 1) rfl), (Pa.out.at (i := 2) rfl), (Pa.out.at (i := 3) rfl)⟩ ?_
  · intro w hSw
    (try dsimp only at hSw)
    go_simp
  simp only [Act.put, List.setIfInBounds_toArray, List.set_cons_zero, List.set_cons_succ]
  refine wpAnyT_take (i := 3) (oi := { dst := some 24, op := Op.fieldAddr 26 (Operand.tmp 1) 1, type := 0, pos := "frac.go:75", after := #[], guard := none }) (v := (.pointer (some ⟨w.heap.size, 2, none⟩))) rfl (by kernel_rfl) (fun _ _ _ h => h) (Or.inl ⟨by rfl, ?_⟩) ⟨PS.out.c0, PS.out.c1, (Pa.out.at (i := 0) rfl), (Pa.out.at (i := 1) rfl), (Pa.out.at (i := 2) rfl), (Pa.out.at (i := 3) rfl)⟩ ?_
  · intro w hSw
    (try dsimp only at hSw)
    go_simp
  simp only [Act.put, List.setIfInBounds_toArray, List.set_cons_zero, List.set_cons_succ]
  refine wpAnyT_take (i := 4) (oi := { dst := some 25, op := Op.load 24 (Operand.tmp 24), type := 24, pos := "frac.go:75", after := #[{ on := 3, ground := Ground.data }], guard := none }) (v := (.agg #[(.bool nad), (.slice adad xad.length cad)])) rfl (by kernel_rfl) (fun _ _ _ h => h) (Or.inl ⟨by rfl, ?_⟩) ⟨PS.out.c0, PS.out.c1, (Pa.out.at (i := 0) rfl), (Pa.out.at (i := 1) rfl), (Pa.out.at (i := 2) rfl), (Pa.out.at (i := 3) rfl)⟩ ?_
  · intro w hSw
    (try dsimp only at hSw)
    go_simp
  simp only [Act.put, List.setIfInBounds_toArray, List.set_cons_zero, List.set_cons_succ]
  refine wpAnyT_one (i := 2) (o := { dst := some 23, op := Op.call { callee := Callee.value (Operand.func 17), args := #[Operand.tmp 21, Operand.tmp 22], argTypes := #[24, 24] }, type := 24, pos := "frac.go:75", after := #[{ on := 0, ground := Ground.data }, { on := 1, ground := Ground.data }], guard := none }) (by kernel_rfl) rfl (fun K hK => ?_)
  go_simp
  go_at_call 17
  refine (add_z Zr.out.zi Zr.out.zi (by omega) (by omega)).mono ?_
  rintro e w7 ⟨r0, rfl, m0, b⟩
  obtain ⟨nt, xt, adt, qt, rfl, -, -, -, -, -⟩ := id m0
  replace Zan := hid (Zan.out.now b)
  replace Zad := hid (Zad.out.now b)
  replace Zq := hid (Zq.out.now b)
  replace Zr := hid (Zr.out.now b)
  replace Pa := hid (Pa.out.step b)
  replace PR := hid (PR.out.step b)
  replace PQ := hid (PQ.out.step b)
  replace PS := hid (PS.out.step b)
  replace G := hid (below_step G.out b)
  have lz8 := (show Below _ _ _ from b).size
  have Zt := hid m0
  clear b m0
  refine hK.out _ _ (fun _ => ⟨PS.out.c0, PS.out.c1, (Pa.out.at (i := 0) rfl), (Pa.out.at (i := 1) rfl), (Pa.out.at (i := 2) rfl), (Pa.out.at (i := 3) rfl)⟩) ?_
  clear hK
  refine wpAnyT_one (i := 5) (o := { dst := some 26, op := Op.call { callee := Callee.value (Operand.func 42), args := #[Operand.tmp 23, Operand.tmp 25], argTypes := #[24, 24] }, type := 3, pos := "frac.go:75", after := #[{ on := 2, ground := Ground.data }, { on := 4, ground := Ground.data }, { on := 2, ground := Ground.chain }], guard := none }) (by kernel_rfl) rfl (fun K hK => ?_)
  go_simp
  go_at_call 42
  refine (HC.out _ _ _ _ Zt.out.zi Zad.out).mono ?_
  rintro e w9 ⟨rfl, b⟩
  replace Zan := hid (Zan.out.now b)
  replace Zad := hid (Zad.out.now b)
  replace Zq := hid (Zq.out.now b)
  replace Zr := hid (Zr.out.now b)
  replace Zt := hid (Zt.out.now b)
  replace Pa := hid (Pa.out.step b)
  replace PR := hid (PR.out.step b)
  replace PQ := hid (PQ.out.step b)
  replace PS := hid (PS.out.step b)
  replace G := hid (below_step G.out b)
  have lz10 := (show Below _ _ _ from b).size
  clear b 
  refine hK.out _ _ (fun _ => ⟨PS.out.c0, PS.out.c1, (Pa.out.at (i := 0) rfl), (Pa.out.at (i := 1) rfl), (Pa.out.at (i := 2) rfl), (Pa.out.at (i := 3) rfl)⟩) ?_
  clear hK
  refine wpAnyT_one (i := 6) (o := { dst := some 7, op := Op.assign (Operand.tmp 26), type := 3, pos := "frac.go:75", after := #[{ on := 5, ground := Ground.data }, { on := 5, ground := Ground.chain }, { on := 0, ground := Ground.phase }, { on := 1, ground := Ground.phase }, { on := 2, ground := Ground.phase }, { on := 3, ground := Ground.phase }, { on := 4, ground := Ground.phase }, { on := 5, ground := Ground.phase }], guard := none }) (by kernel_rfl) rfl (fun K hK => ?_)
  go_simp
  refine hK.out _ _ (fun h => absurd h (by decide)) ?_
  clear hK
  try simp only [Act.put]
  refine wpAnyT_done (by kernel_rfl) ?_ _
  clear Zt
  have cQ0 := PQ.out.c0
  have cQ1 := PQ.out.c1
  go_wp2_with fail
  clear cQ0 cQ1
  refine (HB.out _ _ _ _ Zq.out.zi).mono ?_
  rintro e w11 ⟨rfl, b⟩
  replace Zan := hid (Zan.out.now b)
  replace Zad := hid (Zad.out.now b)
  replace Zq := hid (Zq.out.now b)
  replace Zr := hid (Zr.out.now b)
  replace Pa := hid (Pa.out.step b)
  replace PR := hid (PR.out.step b)
  replace PQ := hid (PQ.out.step b)
  replace PS := hid (PS.out.step b)
  replace G := hid (below_step G.out b)
  have lz12 := (show Below _ _ _ from b).size
  clear b 
  go_wp2_with fail
  refine wp_region_tail (fun w' => w'.cell? ⟨w1.heap.size, 0, none⟩ = some (.bool nq) ∧ w'.cell? ⟨w1.heap.size, 1, none⟩ = some (.slice adq xq.length qq)) 3 (by kernel_rfl) ?_
  obtain ⟨D13, hD⟩ : ∃ D13, w11.drew = D13 := ⟨_, rfl⟩
  have b : Below w11.heap.size w11 D13 := by rw [← hD]; exact (Below.refl _ _).drew
  rw [hD]
  clear hD
  replace Zan := hid (Zan.out.now b)
  replace Zad := hid (Zad.out.now b)
  replace Zq := hid (Zq.out.now b)
  replace Zr := hid (Zr.out.now b)
  replace Pa := hid (Pa.out.step b)
  replace PR := hid (PR.out.step b)
  replace PQ := hid (PQ.out.step b)
  replace PS := hid (PS.out.step b)
  replace G := hid (below_step G.out b)
  have lz14 := (show Below _ _ _ from b).size
  clear b
  refine wpAnyT_take (i := 0) (oi := { dst := some 39, op := Op.load 24 (Operand.tmp 4), type := 24, pos := "frac.go:77", after := #[], guard := none }) (v := (.agg #[(.bool nq), (.slice adq xq.length qq)])) rfl (by kernel_rfl) (fun _ _ _ h => h) (Or.inl ⟨by rfl, ?_⟩) ⟨PQ.out.c0, PQ.out.c1⟩ ?_
  · intro w hSw
    (try dsimp only at hSw)
    go_simp
  simp only [Act.put, List.setIfInBounds_toArray, List.set_cons_zero, List.set_cons_succ]
  refine wpAnyT_one (i := 1) (o := { dst := some 40, op := Op.call { callee := Callee.value (Operand.func 20), args := #[Operand.const (Value.int IntKind.i64 1)], argTypes := #[2] }, type := 24, pos := "frac.go:77", after := #[], guard := none }) (by kernel_rfl) rfl (fun K hK => ?_)
  go_simp
  go_at_call 20
  refine (of_z (n := 1) (by decide) (by decide) _).mono ?_
  rintro e w15 ⟨r0, rfl, m0, b⟩
  obtain ⟨nu, xu, adu, qu, rfl, -, -, -, -, -⟩ := id m0
  replace Zan := hid (Zan.out.now b)
  replace Zad := hid (Zad.out.now b)
  replace Zq := hid (Zq.out.now b)
  replace Zr := hid (Zr.out.now b)
  replace Pa := hid (Pa.out.step b)
  replace PR := hid (PR.out.step b)
  replace PQ := hid (PQ.out.step b)
  replace PS := hid (PS.out.step b)
  replace G := hid (below_step G.out b)
  have lz16 := (show Below _ _ _ from b).size
  have Zu := hid m0
  clear b m0
  refine hK.out _ _ (fun _ => ⟨PQ.out.c0, PQ.out.c1⟩) ?_
  clear hK
  refine wpAnyT_one (i := 2) (o := { dst := some 41, op := Op.call { callee := Callee.value (Operand.func 17), args := #[Operand.tmp 39, Operand.tmp 40], argTypes := #[24, 24] }, type := 24, pos := "frac.go:77", after := #[{ on := 0, ground := Ground.data }, { on := 1, ground := Ground.data }, { on := 1, ground := Ground.chain }], guard := none }) (by kernel_rfl) rfl (fun K hK => ?_)
  go_simp
  go_at_call 17
  refine (add_z Zq.out.zi Zu.out.zi (by omega) (by omega)).mono ?_
  rintro e w17 ⟨r0, rfl, m0, b⟩
  obtain ⟨nv, xv, adv, qv, rfl, -, -, -, -, -⟩ := id m0
  replace Zan := hid (Zan.out.now b)
  replace Zad := hid (Zad.out.now b)
  replace Zq := hid (Zq.out.now b)
  replace Zr := hid (Zr.out.now b)
  replace Zu := hid (Zu.out.now b)
  replace Pa := hid (Pa.out.step b)
  replace PR := hid (PR.out.step b)
  replace PQ := hid (PQ.out.step b)
  replace PS := hid (PS.out.step b)
  replace G := hid (below_step G.out b)
  have lz18 := (show Below _ _ _ from b).size
  have Zv := hid m0
  clear b m0
  refine hK.out _ _ (fun _ => ⟨PQ.out.c0, PQ.out.c1⟩) ?_
  clear hK
  refine wpAnyT_one (i := 3) (o := { dst := none, op := Op.store 24 (Operand.tmp 2) (Operand.tmp 41), type := 0, pos := "frac.go:77", after := #[{ on := 2, ground := Ground.data }, { on := 2, ground := Ground.chain }, { on := 0, ground := Ground.phase }, { on := 1, ground := Ground.phase }, { on := 2, ground := Ground.phase }], guard := none }) (by kernel_rfl) rfl (fun K hK => ?_)
  have cR0 := PR.out.c0
  have cR1 := PR.out.c1
  have fR0 := PR.out.fz 0
  have fR1 := PR.out.fz 1
  go_simp
  clear cR0 cR1 fR0 fR1
  obtain ⟨V19, hW⟩ : ∃ V19, (w17.setCell ⟨w.heap.size + 1, 0, none⟩ (.bool nv)).setCell ⟨w.heap.size + 1, 1, none⟩ (.slice adv xv.length qv) = V19 := ⟨_, rfl⟩
  replace Zan := hid ((Zan.out).wk ((PR.out).wk (.bool nv) (.slice adv xv.length qv)))
  replace Zad := hid ((Zad.out).wk ((PR.out).wk (.bool nv) (.slice adv xv.length qv)))
  replace Zq := hid ((Zq.out).box (PR.out) (.bool nv) (.slice adv xv.length qv))
  replace Zr := hid ((Zr.out).box (PR.out) (.bool nv) (.slice adv xv.length qv))
  replace Zu := hid ((Zu.out).box (PR.out) (.bool nv) (.slice adv xv.length qv))
  replace Zv := hid ((Zv.out).box (PR.out) (.bool nv) (.slice adv xv.length qv))
  replace Pa := hid ((Pa.out).away2 (b' := w.heap.size + 1) (by omega) (.bool nv) (.slice adv xv.length qv))
  replace PR := hid ((PR.out).set (.bool nv) (.slice adv xv.length qv))
  replace PQ := hid ((PQ.out).box (b' := w.heap.size + 1) (by omega) (.bool nv) (.slice adv xv.length qv))
  replace PS := hid ((PS.out).box (b' := w.heap.size + 1) (by omega) (.bool nv) (.slice adv xv.length qv))
  replace G : Hid (Below w.heap.size w (((w17.setCell ⟨w.heap.size + 1, 0, none⟩ (.bool nv)).setCell ⟨w.heap.size + 1, 1, none⟩ (.slice adv xv.length qv)))) := bset (bset (G.out) (by omega)) (by omega)
  have sz19 : V19.heap.size = w17.heap.size := by rw [← hW]; simp
  rw [hW] at Zan Zad Zq Zr Zu Zv Pa PR PQ PS G
  rw [hW]
  clear hW
  refine hK.out _ _ (fun h => absurd h (by decide)) ?_
  clear hK
  try simp only [Act.put]
  refine wpAnyT_one (i := 4) (o := { dst := some 3, op := Op.assign (Operand.const (Value.int IntKind.i64 0)), type := 28, pos := "frac.go:77", after := #[{ on := 3, ground := Ground.chain }, { on := 0, ground := Ground.phase }, { on := 1, ground := Ground.phase }, { on := 2, ground := Ground.phase }, { on := 3, ground := Ground.phase }], guard := none }) (by kernel_rfl) rfl (fun K hK => ?_)
  go_simp
  refine hK.out _ _ (fun h => absurd h (by decide)) ?_
  clear hK
  try simp only [Act.put]
  refine wpAnyT_done (by kernel_rfl) ?_ _
  go_wp2
  exact bodyPost_ret (zback1 Try.results23 PR.out _ (by rfl) (by rfl)) rfl ⟨_, NR.out, _, rfl, (Zv.out.mono (by omega)).more (by omega), G.out⟩

set_option maxHeartbeats 6400000 in
set_option maxRecDepth 100000 in
theorem fnear_even {w : World} {a0 a1 a2 a3 : Value} {AN AD : Int} {k : Nat} (han : Zi w (.agg #[a0, a1]) AN k) (had : Zi w (.agg #[a2, a3]) AD k) (hk : k ≤ 17179869184) (hD : AD ≠ 0) (hh : ((fmd AN AD + fmd AN AD).natAbs : Int) = (AD.natAbs : Int)) (ho : (fdv AN AD).natAbs % 2 = 0) :
    Calls Try.prog 23 #[.agg #[a0, a1, a2, a3]] w (fun e w' => ∃ m, Nr AN AD m ∧ GivesZ1 0 w m (k + 3) e w') := by
  have HC : Hid (∀ w' v u l, Zi w' v (fmd AN AD + fmd AN AD) l → Zi w' u AD k → Calls Try.prog 42 #[v, u] w' fun e w'' => e = .returned (.int .i64 0) ∧ Below w'.heap.size w' w'') := fun w' v u l h h' => by
    have q := cmpAbs_z h h'
    rw [show cmpI ((fmd AN AD + fmd AN AD).natAbs : Int) (AD.natAbs : Int) = 0 from (by rw [hh]; exact cmpI_self _)] at q
    exact q
  have NR := hid (near_stay hD (.inr ⟨hh, ho⟩))
  have HB : Hid (∀ w' x0 x1 l, Zi w' (.agg #[x0, x1]) (fdv AN AD) l → Calls Try.prog 47 #[x1, .int .i64 0] w' fun e w'' => e = .returned (.int .i64 0) ∧ Below w'.heap.size w' w'') := fun w' x0 x1 l h => by
    have q := bit0_z h
    rw [ho] at q
    exact q
  have ho' := hid ho
  clear ho
  have hh' := hid hh
  clear hh
  have HD := hid hD
  clear hD
  have zan0 := han
  obtain ⟨nan, xan, adan, can, ev, -, -, -⟩ := han
  simp only [Value.agg.injEq] at ev
  obtain ⟨rfl, rfl⟩ := pair_eq ev
  have zad0 := had
  obtain ⟨nad, xad, adad, cad, ev, -, -, -⟩ := had
  simp only [Value.agg.injEq] at ev
  obtain ⟨rfl, rfl⟩ := pair_eq ev
  obtain ⟨W0, hW⟩ : ∃ W0, (w.alloc (.cells #[(.bool nan), (.slice adan xan.length can), (.bool nad), (.slice adad xad.length cad)] 26)).alloc zbox = W0 := ⟨_, rfl⟩
  obtain ⟨b0, sz0⟩ := alloc2 w (.cells #[(.bool nan), (.slice adan xan.length can), (.bool nad), (.slice adad xad.length cad)] 26) zbox
  rw [hW] at b0 sz0
  have Pa : Hid (Cel W0 (w.heap.size) 26 [(.bool nan), (.slice adan xan.length can), (.bool nad), (.slice adad xad.length cad)]) := by unfold Hid; rw [← hW]; exact cel_late (cel_at (by simp)) _
  have PR : Hid (Duo W0 (w.heap.size + 1) (.bool false) (.slice none 0 0)) := by unfold Hid; rw [← hW]; exact duo_at (by simp)
  have Zan := hid (zan0.now b0)
  clear zan0
  have Zad := hid (zad0.now b0)
  clear zad0
  have G := hid b0
  clear b0
  have EW := hid hW
  clear hW
  go_enter Try.func23, Try.ntmps23
  have ca0 := (Pa.out.at (i := 0) rfl)
  have ca1 := (Pa.out.at (i := 1) rfl)
  have ca2 := (Pa.out.at (i := 2) rfl)
  have ca3 := (Pa.out.at (i := 3) rfl)
  rw [← EW.out] at ca0 ca1 ca2 ca3
  go_wp2_with fail
  rw [EW.out]
  clear EW
  clear ca0 ca1 ca2 ca3
  refine (floor_z Zan.out Zad.out HD.out (by omega) (by omega)).mono ?_
  rintro e w1 ⟨r0, r1, rfl, m0, m1, b⟩
  obtain ⟨nq, xq, adq, qq, rfl, -, -, -, -, -⟩ := id m0
  obtain ⟨nr, xr, adr, qr, rfl, -, -, -, -, -⟩ := id m1
  replace Zan := hid (Zan.out.now b)
  replace Zad := hid (Zad.out.now b)
  replace Pa := hid (Pa.out.step b)
  replace PR := hid (PR.out.step b)
  replace G := hid (below_step G.out b)
  have lz2 := (show Below _ _ _ from b).size
  have Zq := hid m0
  have Zr := hid m1
  clear b m0 m1
  obtain ⟨V3, hW⟩ : ∃ V3, (w1.alloc (duo (.bool nq) (.slice adq xq.length qq))).alloc (duo (.bool nr) (.slice adr xr.length qr)) = V3 := ⟨_, rfl⟩
  obtain ⟨kW, sz3⟩ := alloc2 w1 (duo (.bool nq) (.slice adq xq.length qq)) (duo (.bool nr) (.slice adr xr.length qr))
  rw [hW] at kW sz3
  replace Zan := hid (Zan.out.now kW)
  replace Zad := hid (Zad.out.now kW)
  replace Zq := hid (Zq.out.now kW)
  replace Zr := hid (Zr.out.now kW)
  replace Pa := hid (Pa.out.step kW)
  replace PR := hid (PR.out.step kW)
  replace G := hid (below_step G.out kW)
  have lz4 := (show Below _ _ _ from kW).size
  have PQ : Hid (Duo V3 (w1.heap.size) (.bool nq) (.slice adq xq.length qq)) := by unfold Hid; rw [← hW]; exact duo_late (duo_at (by simp)) _
  have PS : Hid (Duo V3 (w1.heap.size + 1) (.bool nr) (.slice adr xr.length qr)) := by unfold Hid; rw [← hW]; exact duo_at (by simp)
  clear kW
  have EW := hid hW
  clear hW
  go_wp2_with fail
  rw [EW.out]
  clear EW
  refine wp_region_tail (fun w' => w'.cell? ⟨w1.heap.size + 1, 0, none⟩ = some (.bool nr) ∧ w'.cell? ⟨w1.heap.size + 1, 1, none⟩ = some (.slice adr xr.length qr) ∧ w'.cell? ⟨w.heap.size, 0, none⟩ = some (.bool nan) ∧ w'.cell? ⟨w.heap.size, 1, none⟩ = some (.slice adan xan.length can) ∧ w'.cell? ⟨w.heap.size, 2, none⟩ = some (.bool nad) ∧ w'.cell? ⟨w.heap.size, 3, none⟩ = some (.slice adad xad.length cad)) 6 (by kernel_rfl) ?_
  obtain ⟨D5, hD⟩ : ∃ D5, V3.drew = D5 := ⟨_, rfl⟩
  have b : Below V3.heap.size V3 D5 := by rw [← hD]; exact (Below.refl _ _).drew
  rw [hD]
  clear hD
  replace Zan := hid (Zan.out.now b)
  replace Zad := hid (Zad.out.now b)
  replace Zq := hid (Zq.out.now b)
  replace Zr := hid (Zr.out.now b)
  replace Pa := hid (Pa.out.step b)
  replace PR := hid (PR.out.step b)
  replace PQ := hid (PQ.out.step b)
  replace PS := hid (PS.out.step b)
  replace G := hid (below_step G.out b)
  have lz6 := (show Below _ _ _ from b).size
  clear b
  refine wpAnyT_take (i := 0) (oi := { dst := some 21, op := Op.load 24 (Operand.tmp 5), type := 24, pos := "frac.go:75", after := #[], guard := none }) (v := (.agg #[(.bool nr), (.slice adr xr.length qr)])) rfl (by kernel_rfl) (fun _ _ _ h => h) (Or.inl ⟨by rfl, ?_⟩) ⟨PS.out.c0, PS.out.c1, (Pa.out.at (i := 0) rfl), (Pa.out.at (i := 1) rfl), (Pa.out.at (i := 2) rfl), (Pa.out.at (i := 3) rfl)⟩ ?_
  · intro w hSw
    (try dsimp only at hSw)
    go_simp
  simp only [Act.put, List.setIfInBounds_toArray, List.set_cons_zero, List.set_cons_succ]
  refine wpAnyT_take (i := 1) (oi := { dst := some 22, op := Op.load 24 (Operand.tmp 5), type := 24, pos := "frac.go:75", after := #[], guard := none }) (v := (.agg #[(.bool nr), (.slice adr xr.length qr)])) rfl (by kernel_rfl) (fun _ _ _ h => h) (Or.inl ⟨by rfl, ?_⟩) ⟨PS.out.c0, PS.out.c1, (Pa.out.at (i := 0) rfl), (Pa.out.at (i := 1) rfl), (Pa.out.at (i := 2) rfl), (Pa.out.at (i := 3) rfl)⟩ ?_
  · intro w hSw
    (try dsimp only at hSw)
    go_simp
  simp only [Act.put, List.setIfInBounds_toArray, List.set_cons_zero, List.set_cons_succ]
  refine wpAnyT_take (i := 3) (oi := { dst := some 24, op := Op.fieldAddr 26 (Operand.tmp 1) 1, type := 0, pos := "frac.go:75", after := #[], guard := none }) (v := (.pointer (some ⟨w.heap.size, 2, none⟩))) rfl (by kernel_rfl) (fun _ _ _ h => h) (Or.inl ⟨by rfl, ?_⟩) ⟨PS.out.c0, PS.out.c1, (Pa.out.at (i := 0) rfl), (Pa.out.at (i := 1) rfl), (Pa.out.at (i := 2) rfl), (Pa.out.at (i := 3) rfl)⟩ ?_
  · intro w hSw
    (try dsimp only at hSw)
    go_simp
  simp only [Act.put, List.setIfInBounds_toArray, List.set_cons_zero, List.set_cons_succ]
  refine wpAnyT_take (i := 4) (oi := { dst := some 25, op := Op.load 24 (Operand.tmp 24), type := 24, pos := "frac.go:75", after := #[{ on := 3, ground := Ground.data }], guard := none }) (v := (.agg #[(.bool nad), (.slice adad xad.length cad)])) rfl (by kernel_rfl) (fun _ _ _ h => h) (Or.inl ⟨by rfl, ?_⟩) ⟨PS.out.c0, PS.out.c1, (Pa.out.at (i := 0) rfl), (Pa.out.at (i := 1) rfl), (Pa.out.at (i := 2) rfl), (Pa.out.at (i := 3) rfl)⟩ ?_
  · intro w hSw
    (try dsimp only at hSw)
    go_simp
  simp only [Act.put, List.setIfInBounds_toArray, List.set_cons_zero, List.set_cons_succ]
  refine wpAnyT_one (i := 2) (o := { dst := some 23, op := Op.call { callee := Callee.value (Operand.func 17), args := #[Operand.tmp 21, Operand.tmp 22], argTypes := #[24, 24] }, type := 24, pos := "frac.go:75", after := #[{ on := 0, ground := Ground.data }, { on := 1, ground := Ground.data }], guard := none }) (by kernel_rfl) rfl (fun K hK => ?_)
  go_simp
  go_at_call 17
  refine (add_z Zr.out.zi Zr.out.zi (by omega) (by omega)).mono ?_
  rintro e w7 ⟨r0, rfl, m0, b⟩
  obtain ⟨nt, xt, adt, qt, rfl, -, -, -, -, -⟩ := id m0
  replace Zan := hid (Zan.out.now b)
  replace Zad := hid (Zad.out.now b)
  replace Zq := hid (Zq.out.now b)
  replace Zr := hid (Zr.out.now b)
  replace Pa := hid (Pa.out.step b)
  replace PR := hid (PR.out.step b)
  replace PQ := hid (PQ.out.step b)
  replace PS := hid (PS.out.step b)
  replace G := hid (below_step G.out b)
  have lz8 := (show Below _ _ _ from b).size
  have Zt := hid m0
  clear b m0
  refine hK.out _ _ (fun _ => ⟨PS.out.c0, PS.out.c1, (Pa.out.at (i := 0) rfl), (Pa.out.at (i := 1) rfl), (Pa.out.at (i := 2) rfl), (Pa.out.at (i := 3) rfl)⟩) ?_
  clear hK
  refine wpAnyT_one (i := 5) (o := { dst := some 26, op := Op.call { callee := Callee.value (Operand.func 42), args := #[Operand.tmp 23, Operand.tmp 25], argTypes := #[24, 24] }, type := 3, pos := "frac.go:75", after := #[{ on := 2, ground := Ground.data }, { on := 4, ground := Ground.data }, { on := 2, ground := Ground.chain }], guard := none }) (by kernel_rfl) rfl (fun K hK => ?_)
  go_simp
  go_at_call 42
  refine (HC.out _ _ _ _ Zt.out.zi Zad.out).mono ?_
  rintro e w9 ⟨rfl, b⟩
  replace Zan := hid (Zan.out.now b)
  replace Zad := hid (Zad.out.now b)
  replace Zq := hid (Zq.out.now b)
  replace Zr := hid (Zr.out.now b)
  replace Zt := hid (Zt.out.now b)
  replace Pa := hid (Pa.out.step b)
  replace PR := hid (PR.out.step b)
  replace PQ := hid (PQ.out.step b)
  replace PS := hid (PS.out.step b)
  replace G := hid (below_step G.out b)
  have lz10 := (show Below _ _ _ from b).size
  clear b 
  refine hK.out _ _ (fun _ => ⟨PS.out.c0, PS.out.c1, (Pa.out.at (i := 0) rfl), (Pa.out.at (i := 1) rfl), (Pa.out.at (i := 2) rfl), (Pa.out.at (i := 3) rfl)⟩) ?_
  clear hK
  refine wpAnyT_one (i := 6) (o := { dst := some 7, op := Op.assign (Operand.tmp 26), type := 3, pos := "frac.go:75", after := #[{ on := 5, ground := Ground.data }, { on := 5, ground := Ground.chain }, { on := 0, ground := Ground.phase }, { on := 1, ground := Ground.phase }, { on := 2, ground := Ground.phase }, { on := 3, ground := Ground.phase }, { on := 4, ground := Ground.phase }, { on := 5, ground := Ground.phase }], guard := none }) (by kernel_rfl) rfl (fun K hK => ?_)
  go_simp
  refine hK.out _ _ (fun h => absurd h (by decide)) ?_
  clear hK
  try simp only [Act.put]
  refine wpAnyT_done (by kernel_rfl) ?_ _
  clear Zt
  have cQ0 := PQ.out.c0
  have cQ1 := PQ.out.c1
  go_wp2_with fail
  clear cQ0 cQ1
  refine (HB.out _ _ _ _ Zq.out.zi).mono ?_
  rintro e w11 ⟨rfl, b⟩
  replace Zan := hid (Zan.out.now b)
  replace Zad := hid (Zad.out.now b)
  replace Zq := hid (Zq.out.now b)
  replace Zr := hid (Zr.out.now b)
  replace Pa := hid (Pa.out.step b)
  replace PR := hid (PR.out.step b)
  replace PQ := hid (PQ.out.step b)
  replace PS := hid (PS.out.step b)
  replace G := hid (below_step G.out b)
  have lz12 := (show Below _ _ _ from b).size
  clear b 
  have cQ0 := PQ.out.c0
  have cQ1 := PQ.out.c1
  have cR0 := PR.out.c0
  have cR1 := PR.out.c1
  have fR0 := PR.out.fz 0
  have fR1 := PR.out.fz 1
  go_wp2
  exact bodyPost_ret (zback1 Try.results23 (PR.out.set _ _) _ (by rfl) (by rfl)) rfl ⟨_, NR.out, _, rfl, ((Zq.out.box PR.out _ _).mono (by omega)).more (by omega), bset (bset G.out (by omega)) (by omega)⟩

set_option maxHeartbeats 6400000 in
set_option maxRecDepth 100000 in
theorem fnear_small {w : World} {a0 a1 a2 a3 : Value} {AN AD : Int} {k : Nat} (han : Zi w (.agg #[a0, a1]) AN k) (had : Zi w (.agg #[a2, a3]) AD k) (hk : k ≤ 17179869184) (hD : AD ≠ 0) (hh : ((fmd AN AD + fmd AN AD).natAbs : Int) < (AD.natAbs : Int)) :
    Calls Try.prog 23 #[.agg #[a0, a1, a2, a3]] w (fun e w' => ∃ m, Nr AN AD m ∧ GivesZ1 0 w m (k + 3) e w') := by
  have HC : Hid (∀ w' v u l, Zi w' v (fmd AN AD + fmd AN AD) l → Zi w' u AD k → Calls Try.prog 42 #[v, u] w' fun e w'' => e = .returned (.int .i64 (-1)) ∧ Below w'.heap.size w' w'') := fun w' v u l h h' => by
    have q := cmpAbs_z h h'
    rw [show cmpI ((fmd AN AD + fmd AN AD).natAbs : Int) (AD.natAbs : Int) = (-1) from cmpI_lt hh] at q
    exact q
  have NR := hid (near_stay hD (.inl hh))
  have hh' := hid hh
  clear hh
  have HD := hid hD
  clear hD
  have zan0 := han
  obtain ⟨nan, xan, adan, can, ev, -, -, -⟩ := han
  simp only [Value.agg.injEq] at ev
  obtain ⟨rfl, rfl⟩ := pair_eq ev
  have zad0 := had
  obtain ⟨nad, xad, adad, cad, ev, -, -, -⟩ := had
  simp only [Value.agg.injEq] at ev
  obtain ⟨rfl, rfl⟩ := pair_eq ev
  obtain ⟨W0, hW⟩ : ∃ W0, (w.alloc (.cells #[(.bool nan), (.slice adan xan.length can), (.bool nad), (.slice adad xad.length cad)] 26)).alloc zbox = W0 := ⟨_, rfl⟩
  obtain ⟨b0, sz0⟩ := alloc2 w (.cells #[(.bool nan), (.slice adan xan.length can), (.bool nad), (.slice adad xad.length cad)] 26) zbox
  rw [hW] at b0 sz0
  have Pa : Hid (Cel W0 (w.heap.size) 26 [(.bool nan), (.slice adan xan.length can), (.bool nad), (.slice adad xad.length cad)]) := by unfold Hid; rw [← hW]; exact cel_late (cel_at (by simp)) _
  have PR : Hid (Duo W0 (w.heap.size + 1) (.bool false) (.slice none 0 0)) := by unfold Hid; rw [← hW]; exact duo_at (by simp)
  have Zan := hid (zan0.now b0)
  clear zan0
  have Zad := hid (zad0.now b0)
  clear zad0
  have G := hid b0
  clear b0
  have EW := hid hW
  clear hW
  go_enter Try.func23, Try.ntmps23
  have ca0 := (Pa.out.at (i := 0) rfl)
  have ca1 := (Pa.out.at (i := 1) rfl)
  have ca2 := (Pa.out.at (i := 2) rfl)
  have ca3 := (Pa.out.at (i := 3) rfl)
  rw [← EW.out] at ca0 ca1 ca2 ca3
  go_wp2_with fail
  rw [EW.out]
  clear EW
  clear ca0 ca1 ca2 ca3
  refine (floor_z Zan.out Zad.out HD.out (by omega) (by omega)).mono ?_
  rintro e w1 ⟨r0, r1, rfl, m0, m1, b⟩
  obtain ⟨nq, xq, adq, qq, rfl, -, -, -, -, -⟩ := id m0
  obtain ⟨nr, xr, adr, qr, rfl, -, -, -, -, -⟩ := id m1
  replace Zan := hid (Zan.out.now b)
  replace Zad := hid (Zad.out.now b)
  replace Pa := hid (Pa.out.step b)
  replace PR := hid (PR.out.step b)
  replace G := hid (below_step G.out b)
  have lz2 := (show Below _ _ _ from b).size
  have Zq := hid m0
  have Zr := hid m1
  clear b m0 m1
  obtain ⟨V3, hW⟩ : ∃ V3, (w1.alloc (duo (.bool nq) (.slice adq xq.length qq))).alloc (duo (.bool nr) (.slice adr xr.length qr)) = V3 := ⟨_, rfl⟩
  obtain ⟨kW, sz3⟩ := alloc2 w1 (duo (.bool nq) (.slice adq xq.length qq)) (duo (.bool nr) (.slice adr xr.length qr))
  rw [hW] at kW sz3
  replace Zan := hid (Zan.out.now kW)
  replace Zad := hid (Zad.out.now kW)
  replace Zq := hid (Zq.out.now kW)
  replace Zr := hid (Zr.out.now kW)
  replace Pa := hid (Pa.out.step kW)
  replace PR := hid (PR.out.step kW)
  replace G := hid (below_step G.out kW)
  have lz4 := (show Below _ _ _ from kW).size
  have PQ : Hid (Duo V3 (w1.heap.size) (.bool nq) (.slice adq xq.length qq)) := by unfold Hid; rw [← hW]; exact duo_late (duo_at (by simp)) _
  have PS : Hid (Duo V3 (w1.heap.size + 1) (.bool nr) (.slice adr xr.length qr)) := by unfold Hid; rw [← hW]; exact duo_at (by simp)
  clear kW
  have EW := hid hW
  clear hW
  go_wp2_with fail
  rw [EW.out]
  clear EW
  refine wp_region_tail (fun w' => w'.cell? ⟨w1.heap.size + 1, 0, none⟩ = some (.bool nr) ∧ w'.cell? ⟨w1.heap.size + 1, 1, none⟩ = some (.slice adr xr.length qr) ∧ w'.cell? ⟨w.heap.size, 0, none⟩ = some (.bool nan) ∧ w'.cell? ⟨w.heap.size, 1, none⟩ = some (.slice adan xan.length can) ∧ w'.cell? ⟨w.heap.size, 2, none⟩ = some (.bool nad) ∧ w'.cell? ⟨w.heap.size, 3, none⟩ = some (.slice adad xad.length cad)) 6 (by kernel_rfl) ?_
  obtain ⟨D5, hD⟩ : ∃ D5, V3.drew = D5 := ⟨_, rfl⟩
  have b : Below V3.heap.size V3 D5 := by rw [← hD]; exact (Below.refl _ _).drew
  rw [hD]
  clear hD
  replace Zan := hid (Zan.out.now b)
  replace Zad := hid (Zad.out.now b)
  replace Zq := hid (Zq.out.now b)
  replace Zr := hid (Zr.out.now b)
  replace Pa := hid (Pa.out.step b)
  replace PR := hid (PR.out.step b)
  replace PQ := hid (PQ.out.step b)
  replace PS := hid (PS.out.step b)
  replace G := hid (below_step G.out b)
  have lz6 := (show Below _ _ _ from b).size
  clear b
  refine wpAnyT_take (i := 0) (oi := { dst := some 21, op := Op.load 24 (Operand.tmp 5), type := 24, pos := "frac.go:75", after := #[], guard := none }) (v := (.agg #[(.bool nr), (.slice adr xr.length qr)])) rfl (by kernel_rfl) (fun _ _ _ h => h) (Or.inl ⟨by rfl, ?_⟩) ⟨PS.out.c0, PS.out.c1, (Pa.out.at (i := 0) rfl), (Pa.out.at (i := 1) rfl), (Pa.out.at (i := 2) rfl), (Pa.out.at (i := 3) rfl)⟩ ?_
  · intro w hSw
    (try dsimp only at hSw)
    go_simp
  simp only [Act.put, List.setIfInBounds_toArray, List.set_cons_zero, List.set_cons_succ]
  refine wpAnyT_take (i := 1) (oi := { dst := some 22, op := Op.load 24 (Operand.tmp 5), type := 24, pos := "frac.go:75", after := #[], guard := none }) (v := (.agg #[(.bool nr), (.slice adr xr.length qr)])) rfl (by kernel_rfl) (fun _ _ _ h => h) (Or.inl ⟨by rfl, ?_⟩) ⟨PS.out.c0, PS.out.c1, (Pa.out.at (i := 0) rfl), (Pa.out.at (i := 1) rfl), (Pa.out.at (i := 2) rfl), (Pa.out.at (i := 3) rfl)⟩ ?_
  · intro w hSw
    (try dsimp only at hSw)
    go_simp
  simp only [Act.put, List.setIfInBounds_toArray, List.set_cons_zero, List.set_cons_succ]
  refine wpAnyT_take (i := 3) (oi := { dst := some 24, op := Op.fieldAddr 26 (Operand.tmp 1) 1, type := 0, pos := "frac.go:75", after := #[], guard := none }) (v := (.pointer (some ⟨w.heap.size, 2, none⟩))) rfl (by kernel_rfl) (fun _ _ _ h => h) (Or.inl ⟨by rfl, ?_⟩) ⟨PS.out.c0, PS.out.c1, (Pa.out.at (i := 0) rfl), (Pa.out.at (i := 1) rfl), (Pa.out.at (i := 2) rfl), (Pa.out.at (i := 3) rfl)⟩ ?_
  · intro w hSw
    (try dsimp only at hSw)
    go_simp
  simp only [Act.put, List.setIfInBounds_toArray, List.set_cons_zero, List.set_cons_succ]
  refine wpAnyT_take (i := 4) (oi := { dst := some 25, op := Op.load 24 (Operand.tmp 24), type := 24, pos := "frac.go:75", after := #[{ on := 3, ground := Ground.data }], guard := none }) (v := (.agg #[(.bool nad), (.slice adad xad.length cad)])) rfl (by kernel_rfl) (fun _ _ _ h => h) (Or.inl ⟨by rfl, ?_⟩) ⟨PS.out.c0, PS.out.c1, (Pa.out.at (i := 0) rfl), (Pa.out.at (i := 1) rfl), (Pa.out.at (i := 2) rfl), (Pa.out.at (i := 3) rfl)⟩ ?_
  · intro w hSw
    (try dsimp only at hSw)
    go_simp
  simp only [Act.put, List.setIfInBounds_toArray, List.set_cons_zero, List.set_cons_succ]
  refine wpAnyT_one (i := 2) (o := { dst := some 23, op := Op.call { callee := Callee.value (Operand.func 17), args := #[Operand.tmp 21, Operand.tmp 22], argTypes := #[24, 24] }, type := 24, pos := "frac.go:75", after := #[{ on := 0, ground := Ground.data }, { on := 1, ground := Ground.data }], guard := none }) (by kernel_rfl) rfl (fun K hK => ?_)
  go_simp
  go_at_call 17
  refine (add_z Zr.out.zi Zr.out.zi (by omega) (by omega)).mono ?_
  rintro e w7 ⟨r0, rfl, m0, b⟩
  obtain ⟨nt, xt, adt, qt, rfl, -, -, -, -, -⟩ := id m0
  replace Zan := hid (Zan.out.now b)
  replace Zad := hid (Zad.out.now b)
  replace Zq := hid (Zq.out.now b)
  replace Zr := hid (Zr.out.now b)
  replace Pa := hid (Pa.out.step b)
  replace PR := hid (PR.out.step b)
  replace PQ := hid (PQ.out.step b)
  replace PS := hid (PS.out.step b)
  replace G := hid (below_step G.out b)
  have lz8 := (show Below _ _ _ from b).size
  have Zt := hid m0
  clear b m0
  refine hK.out _ _ (fun _ => ⟨PS.out.c0, PS.out.c1, (Pa.out.at (i := 0) rfl), (Pa.out.at (i := 1) rfl), (Pa.out.at (i := 2) rfl), (Pa.out.at (i := 3) rfl)⟩) ?_
  clear hK
  refine wpAnyT_one (i := 5) (o := { dst := some 26, op := Op.call { callee := Callee.value (Operand.func 42), args := #[Operand.tmp 23, Operand.tmp 25], argTypes := #[24, 24] }, type := 3, pos := "frac.go:75", after := #[{ on := 2, ground := Ground.data }, { on := 4, ground := Ground.data }, { on := 2, ground := Ground.chain }], guard := none }) (by kernel_rfl) rfl (fun K hK => ?_)
  go_simp
  go_at_call 42
  refine (HC.out _ _ _ _ Zt.out.zi Zad.out).mono ?_
  rintro e w9 ⟨rfl, b⟩
  replace Zan := hid (Zan.out.now b)
  replace Zad := hid (Zad.out.now b)
  replace Zq := hid (Zq.out.now b)
  replace Zr := hid (Zr.out.now b)
  replace Zt := hid (Zt.out.now b)
  replace Pa := hid (Pa.out.step b)
  replace PR := hid (PR.out.step b)
  replace PQ := hid (PQ.out.step b)
  replace PS := hid (PS.out.step b)
  replace G := hid (below_step G.out b)
  have lz10 := (show Below _ _ _ from b).size
  clear b 
  refine hK.out _ _ (fun _ => ⟨PS.out.c0, PS.out.c1, (Pa.out.at (i := 0) rfl), (Pa.out.at (i := 1) rfl), (Pa.out.at (i := 2) rfl), (Pa.out.at (i := 3) rfl)⟩) ?_
  clear hK
  refine wpAnyT_one (i := 6) (o := { dst := some 7, op := Op.assign (Operand.tmp 26), type := 3, pos := "frac.go:75", after := #[{ on := 5, ground := Ground.data }, { on := 5, ground := Ground.chain }, { on := 0, ground := Ground.phase }, { on := 1, ground := Ground.phase }, { on := 2, ground := Ground.phase }, { on := 3, ground := Ground.phase }, { on := 4, ground := Ground.phase }, { on := 5, ground := Ground.phase }], guard := none }) (by kernel_rfl) rfl (fun K hK => ?_)
  go_simp
  refine hK.out _ _ (fun h => absurd h (by decide)) ?_
  clear hK
  try simp only [Act.put]
  refine wpAnyT_done (by kernel_rfl) ?_ _
  clear Zt
  have cQ0 := PQ.out.c0
  have cQ1 := PQ.out.c1
  have cR0 := PR.out.c0
  have cR1 := PR.out.c1
  have fR0 := PR.out.fz 0
  have fR1 := PR.out.fz 1
  go_wp2
  exact bodyPost_ret (zback1 Try.results23 (PR.out.set _ _) _ (by rfl) (by rfl)) rfl ⟨_, NR.out, _, rfl, ((Zq.out.box PR.out _ _).mono (by omega)).more (by omega), bset (bset G.out (by omega)) (by omega)⟩

theorem fnear_z {w : World} {a0 a1 a2 a3 : Value} {AN AD : Int} {k : Nat} (han : Zi w (.agg #[a0, a1]) AN k) (had : Zi w (.agg #[a2, a3]) AD k) (hk : k ≤ 17179869184) (hD : AD ≠ 0) :
    Calls Try.prog 23 #[.agg #[a0, a1, a2, a3]] w (fun e w' => ∃ m, Nr AN AD m ∧ GivesZ1 0 w m (k + 3) e w') := by
  rcases Int.lt_trichotomy (AD.natAbs : Int) ((fmd AN AD + fmd AN AD).natAbs : Int) with h | h | h
  · exact fnear_big han had hk hD h
  · rcases Nat.mod_two_eq_zero_or_one (fdv AN AD).natAbs with o | o
    · exact fnear_even han had hk hD h.symm o
    · exact fnear_odd han had hk hD h.symm o
  · exact fnear_small han had hk hD h
end Go.Proofs.Ytaoammmnpfbdfaa
