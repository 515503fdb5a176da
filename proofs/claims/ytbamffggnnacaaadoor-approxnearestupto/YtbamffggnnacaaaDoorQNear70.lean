/-
  Near70: the law ApproxNearest where the nearest is infinite, or exact
-/
import Derived.Test.YtbamffggnnacaaaDoorQNz7
namespace Go.Proofs.YtbamffggnnacaaaDoor
open Go.RowKit
set_option linter.unusedVariables false

set_option maxHeartbeats 25600000 in
set_option maxRecDepth 100000 in
theorem nearest_inf {w : World} {va : Value} {A : Int} (ha : Zi w va A 1048576) (hT : Tab w) (hN : lim7 ≤ A.natAbs) :
    Calls Tryd.prog 3 #[va] w fun e w' => e = .returned (.bool true) ∧ Below w.heap.size w w' := by
  have hF := zw_lt A
  have HI := hid (near_f_inf hN)
  obtain ⟨F, hFe⟩ : ∃ F, zw A 0 = F := ⟨_, rfl⟩
  have HFe := hid hFe
  rw [hFe] at hF HI
  clear hFe
  have HF := hid hF
  clear hF
  have HN := hid hN
  clear hN
  have k1 := fbits_run F
  have za0 := ha
  obtain ⟨na, xa, ada, ca, rfl, -, -, -⟩ := ha
  obtain ⟨W0, hW⟩ : ∃ W0, w.alloc (duo (.bool na) (.slice ada xa.length ca)) = W0 := ⟨_, rfl⟩
  obtain ⟨b0, sz0⟩ := alloc1 w (duo (.bool na) (.slice ada xa.length ca))
  rw [hW] at b0 sz0
  have Pa : Hid (Duo W0 (w.heap.size) (.bool na) (.slice ada xa.length ca)) := by unfold Hid; rw [← hW]; exact duo_at (by simp)
  have Za := hid (za0.now b0)
  clear za0
  have G := hid b0
  clear b0
  have EW := hid hW
  clear hW
  go_enter Tryd.func3, Tryd.ntmps3
  have HT := hid (hT.now G.out)
  clear hT
  skip
  go_wp2_with fail
  rw [EW.out]
  clear EW
  refine (awake7 HT.out).mono ?_
  rintro e w1 ⟨rfl, b⟩
  replace Za := hid (Za.out.now b)
  replace Pa := hid (Pa.out.step b)
  replace HT := hid (HT.out.now b)
  replace G := hid (below_step G.out b)
  have lz2 := (show Below _ _ _ from b).size
  clear b 
  have ca0 := Pa.out.c0
  have ca1 := Pa.out.c1
  go_wp2_with fail
  clear ca0 ca1
  refine (near_as Za.out HT.out (by decide) HFe.out).mono ?_
  rintro e w3 ⟨rfl, b⟩
  replace Za := hid (Za.out.now b)
  replace Pa := hid (Pa.out.step b)
  replace HT := hid (HT.out.now b)
  replace G := hid (below_step G.out b)
  have lz4 := (show Below _ _ _ from b).size
  clear b 
  go_wp2_with fail
  refine (two_1024 _).mono ?_
  rintro e w5 ⟨r0, rfl, m0, b⟩
  obtain ⟨np, xp, adp, qp, rfl, -, -, -⟩ := id m0
  replace Za := hid (Za.out.now b)
  replace Pa := hid (Pa.out.step b)
  replace HT := hid (HT.out.now b)
  replace G := hid (below_step G.out b)
  have lz6 := (show Below _ _ _ from b).size
  have Zp := hid m0
  clear b m0
  go_wp2_with fail
  refine (two_970 _).mono ?_
  rintro e w7 ⟨r0, rfl, m0, b⟩
  obtain ⟨nq, xq, adq, qq, rfl, -, -, -⟩ := id m0
  replace Za := hid (Za.out.now b)
  replace Zp := hid (Zp.out.now b)
  replace Pa := hid (Pa.out.step b)
  replace HT := hid (HT.out.now b)
  replace G := hid (below_step G.out b)
  have lz8 := (show Below _ _ _ from b).size
  have Zq := hid m0
  clear b m0
  go_wp2_with fail
  refine (sub_z Zp.out Zq.out (by decide) (by decide)).mono ?_
  rintro e w9 ⟨r0, rfl, m0, b⟩
  obtain ⟨nl, xl, adl, ql, rfl, -, -, -, -, -⟩ := id m0
  replace Za := hid (Za.out.now b)
  replace Zp := hid (Zp.out.now b)
  replace Zq := hid (Zq.out.now b)
  replace Pa := hid (Pa.out.step b)
  replace HT := hid (HT.out.now b)
  replace G := hid (below_step G.out b)
  have lz10 := (show Below _ _ _ from b).size
  have Zl := hid m0
  clear b m0
  clear Zp
  clear Zq
  obtain ⟨V11, hW⟩ : ∃ V11, w9.alloc (duo (.bool nl) (.slice adl xl.length ql)) = V11 := ⟨_, rfl⟩
  obtain ⟨kW, sz11⟩ := alloc1 w9 (duo (.bool nl) (.slice adl xl.length ql))
  rw [hW] at kW sz11
  replace Za := hid (Za.out.now kW)
  replace Zl := hid (Zl.out.now kW)
  replace Pa := hid (Pa.out.step kW)
  replace HT := hid (HT.out.now kW)
  replace G := hid (below_step G.out kW)
  have lz12 := (show Below _ _ _ from kW).size
  have Pl : Hid (Duo V11 (w9.heap.size) (.bool nl) (.slice adl xl.length ql)) := by unfold Hid; rw [← hW]; exact duo_at (by simp)
  clear kW
  have ca0 := Pa.out.c0
  have ca1 := Pa.out.c1
  have cl0 := Pl.out.c0
  have cl1 := Pl.out.c1
  rw [← hW] at ca0 ca1 cl0 cl1
  have EW := hid hW
  clear hW
  go_wp2_with fail
  rw [EW.out]
  clear EW
  clear ca0 ca1 cl0 cl1
  refine (abs_ge Za.out Zl.out.zi (by rw [lim_int]; exact HN.out)).mono ?_
  rintro e w13 ⟨c1, rfl, hc1, b⟩
  replace Za := hid (Za.out.now b)
  replace Zl := hid (Zl.out.now b)
  replace Pa := hid (Pa.out.step b)
  replace Pl := hid (Pl.out.step b)
  replace HT := hid (HT.out.now b)
  replace G := hid (below_step G.out b)
  have lz14 := (show Below _ _ _ from b).size
  clear b 
  have d1 : decide (0 ≤ c1) = true := decide_eq_true hc1
  have ca0 := Pa.out.c0
  have ca1 := Pa.out.c1
  go_wp2_with fail
  clear ca0 ca1
  refine (sign_z Za.out).mono ?_
  rintro e w15 ⟨rfl, b⟩
  replace Za := hid (Za.out.now b)
  replace Zl := hid (Zl.out.now b)
  replace Pa := hid (Pa.out.step b)
  replace Pl := hid (Pl.out.step b)
  replace HT := hid (HT.out.now b)
  replace G := hid (below_step G.out b)
  have lz16 := (show Below _ _ _ from b).size
  clear b 
  go_wp2_with fail
  refine (isInf_b HF.out _ HI.out).mono ?_
  rintro e w17 ⟨rfl, b⟩
  replace Za := hid (Za.out.now b)
  replace Zl := hid (Zl.out.now b)
  replace Pa := hid (Pa.out.step b)
  replace Pl := hid (Pl.out.step b)
  replace HT := hid (HT.out.now b)
  replace G := hid (below_step G.out b)
  have lz18 := (show Below _ _ _ from b).size
  clear b 
  go_wp2
  go_ret
  exact ⟨rfl, G.out⟩
set_option maxHeartbeats 25600000 in
set_option maxRecDepth 100000 in
theorem nearest_small {w : World} {va : Value} {A : Int} (ha : Zi w va A 1048576) (hT : Tab w) (hN : A.natAbs ≤ 2 ^ 53) (hM : A.natAbs < lim7) :
    Calls Tryd.prog 3 #[va] w fun e w' => e = .returned (.bool true) ∧ Below w.heap.size w w' := by
  have hF := zw_lt A
  obtain ⟨hf1, hf2, hf3⟩ := near_f_fin hM
  have HF1 := hid hf1
  have HF3 := hid hf3
  clear hf1 hf3
  have HO := hid (near_f_small hN)
  obtain ⟨F, hFe⟩ : ∃ F, zw A 0 = F := ⟨_, rfl⟩
  have HFe := hid hFe
  rw [hFe] at hF HF1 HF3 HO hf2
  clear hFe
  have HF := hid hF
  clear hF
  have HN := hid hN
  clear hN
  have HM := hid hM
  clear hM
  have k1 := fbits_run F
  have za0 := ha
  obtain ⟨na, xa, ada, ca, rfl, -, -, -⟩ := ha
  obtain ⟨W0, hW⟩ : ∃ W0, w.alloc (duo (.bool na) (.slice ada xa.length ca)) = W0 := ⟨_, rfl⟩
  obtain ⟨b0, sz0⟩ := alloc1 w (duo (.bool na) (.slice ada xa.length ca))
  rw [hW] at b0 sz0
  have Pa : Hid (Duo W0 (w.heap.size) (.bool na) (.slice ada xa.length ca)) := by unfold Hid; rw [← hW]; exact duo_at (by simp)
  have Za := hid (za0.now b0)
  clear za0
  have G := hid b0
  clear b0
  have EW := hid hW
  clear hW
  go_enter Tryd.func3, Tryd.ntmps3
  have HT := hid (hT.now G.out)
  clear hT
  skip
  go_wp2_with fail
  rw [EW.out]
  clear EW
  refine (awake7 HT.out).mono ?_
  rintro e w1 ⟨rfl, b⟩
  replace Za := hid (Za.out.now b)
  replace Pa := hid (Pa.out.step b)
  replace HT := hid (HT.out.now b)
  replace G := hid (below_step G.out b)
  have lz2 := (show Below _ _ _ from b).size
  clear b 
  have ca0 := Pa.out.c0
  have ca1 := Pa.out.c1
  go_wp2_with fail
  clear ca0 ca1
  refine (near_as Za.out HT.out (by decide) HFe.out).mono ?_
  rintro e w3 ⟨rfl, b⟩
  replace Za := hid (Za.out.now b)
  replace Pa := hid (Pa.out.step b)
  replace HT := hid (HT.out.now b)
  replace G := hid (below_step G.out b)
  have lz4 := (show Below _ _ _ from b).size
  clear b 
  go_wp2_with fail
  refine (two_1024 _).mono ?_
  rintro e w5 ⟨r0, rfl, m0, b⟩
  obtain ⟨np, xp, adp, qp, rfl, -, -, -⟩ := id m0
  replace Za := hid (Za.out.now b)
  replace Pa := hid (Pa.out.step b)
  replace HT := hid (HT.out.now b)
  replace G := hid (below_step G.out b)
  have lz6 := (show Below _ _ _ from b).size
  have Zp := hid m0
  clear b m0
  go_wp2_with fail
  refine (two_970 _).mono ?_
  rintro e w7 ⟨r0, rfl, m0, b⟩
  obtain ⟨nq, xq, adq, qq, rfl, -, -, -⟩ := id m0
  replace Za := hid (Za.out.now b)
  replace Zp := hid (Zp.out.now b)
  replace Pa := hid (Pa.out.step b)
  replace HT := hid (HT.out.now b)
  replace G := hid (below_step G.out b)
  have lz8 := (show Below _ _ _ from b).size
  have Zq := hid m0
  clear b m0
  go_wp2_with fail
  refine (sub_z Zp.out Zq.out (by decide) (by decide)).mono ?_
  rintro e w9 ⟨r0, rfl, m0, b⟩
  obtain ⟨nl, xl, adl, ql, rfl, -, -, -, -, -⟩ := id m0
  replace Za := hid (Za.out.now b)
  replace Zp := hid (Zp.out.now b)
  replace Zq := hid (Zq.out.now b)
  replace Pa := hid (Pa.out.step b)
  replace HT := hid (HT.out.now b)
  replace G := hid (below_step G.out b)
  have lz10 := (show Below _ _ _ from b).size
  have Zl := hid m0
  clear b m0
  clear Zp
  clear Zq
  obtain ⟨V11, hW⟩ : ∃ V11, w9.alloc (duo (.bool nl) (.slice adl xl.length ql)) = V11 := ⟨_, rfl⟩
  obtain ⟨kW, sz11⟩ := alloc1 w9 (duo (.bool nl) (.slice adl xl.length ql))
  rw [hW] at kW sz11
  replace Za := hid (Za.out.now kW)
  replace Zl := hid (Zl.out.now kW)
  replace Pa := hid (Pa.out.step kW)
  replace HT := hid (HT.out.now kW)
  replace G := hid (below_step G.out kW)
  have lz12 := (show Below _ _ _ from kW).size
  have Pl : Hid (Duo V11 (w9.heap.size) (.bool nl) (.slice adl xl.length ql)) := by unfold Hid; rw [← hW]; exact duo_at (by simp)
  clear kW
  have ca0 := Pa.out.c0
  have ca1 := Pa.out.c1
  have cl0 := Pl.out.c0
  have cl1 := Pl.out.c1
  rw [← hW] at ca0 ca1 cl0 cl1
  have EW := hid hW
  clear hW
  go_wp2_with fail
  rw [EW.out]
  clear EW
  clear ca0 ca1 cl0 cl1
  refine (abs_lt Za.out Zl.out.zi (by rw [lim_int]; exact HM.out)).mono ?_
  rintro e w13 ⟨c1, rfl, hc1, b⟩
  replace Za := hid (Za.out.now b)
  replace Zl := hid (Zl.out.now b)
  replace Pa := hid (Pa.out.step b)
  replace Pl := hid (Pl.out.step b)
  replace HT := hid (HT.out.now b)
  replace G := hid (below_step G.out b)
  have lz14 := (show Below _ _ _ from b).size
  clear b 
  have d1 : decide (0 ≤ c1) = false := decide_eq_false (by omega)
  clear Zl
  clear Pl
  go_wp2_with fail
  refine (whole_fin HF.out HF1.out _).mono ?_
  rintro e w15 ⟨r0, rfl, m0, b⟩
  obtain ⟨no, xo, ado, qo, rfl, -, -, -, -, -⟩ := id m0
  replace Za := hid (Za.out.now b)
  replace Pa := hid (Pa.out.step b)
  replace HT := hid (HT.out.now b)
  replace G := hid (below_step G.out b)
  have lz16 := (show Below _ _ _ from b).size
  have Zo := hid m0
  clear b m0
  obtain ⟨V17, hW⟩ : ∃ V17, w15.alloc (duo (.bool no) (.slice ado xo.length qo)) = V17 := ⟨_, rfl⟩
  obtain ⟨kW, sz17⟩ := alloc1 w15 (duo (.bool no) (.slice ado xo.length qo))
  rw [hW] at kW sz17
  replace Za := hid (Za.out.now kW)
  replace Zo := hid (Zo.out.now kW)
  replace Pa := hid (Pa.out.step kW)
  replace HT := hid (HT.out.now kW)
  replace G := hid (below_step G.out kW)
  have lz18 := (show Below _ _ _ from kW).size
  have Po : Hid (Duo V17 (w15.heap.size) (.bool no) (.slice ado xo.length qo)) := by unfold Hid; rw [← hW]; exact duo_at (by simp)
  clear kW
  have EW := hid hW
  clear hW
  go_wp2_with fail
  rw [EW.out]
  clear EW
  refine (finite_yes HF1.out _).mono ?_
  rintro e w19 ⟨rfl, b⟩
  replace Za := hid (Za.out.now b)
  replace Zo := hid (Zo.out.now b)
  replace Pa := hid (Pa.out.step b)
  replace Po := hid (Po.out.step b)
  replace HT := hid (HT.out.now b)
  replace G := hid (below_step G.out b)
  have lz20 := (show Below _ _ _ from b).size
  clear b 
  have q0 : ((0 : Int) != 0) = false := rfl
  have co0 := Po.out.c0
  have co1 := Po.out.c1
  go_wp2_with fail
  clear co0 co1
  refine (acmp_zero Zo.out.zi HF.out HF1.out HF3.out).mono ?_
  rintro e w21 ⟨rfl, b⟩
  replace Za := hid (Za.out.now b)
  replace Zo := hid (Zo.out.now b)
  replace Pa := hid (Pa.out.step b)
  replace Po := hid (Po.out.step b)
  replace HT := hid (HT.out.now b)
  replace G := hid (below_step G.out b)
  have lz22 := (show Below _ _ _ from b).size
  clear b 
  have ca0 := Pa.out.c0
  have ca1 := Pa.out.c1
  have co0 := Po.out.c0
  have co1 := Po.out.c1
  go_wp2_with fail
  clear ca0 ca1 co0 co1
  refine (sub_z Za.out Zo.out.zi (by decide) (by decide)).mono ?_
  rintro e w23 ⟨r0, rfl, m0, b⟩
  obtain ⟨nd, xd, add, qd, rfl, -, -, -, -, -⟩ := id m0
  replace Za := hid (Za.out.now b)
  replace Zo := hid (Zo.out.now b)
  replace Pa := hid (Pa.out.step b)
  replace Po := hid (Po.out.step b)
  replace HT := hid (HT.out.now b)
  replace G := hid (below_step G.out b)
  have lz24 := (show Below _ _ _ from b).size
  have Zd := hid m0
  clear b m0
  go_wp2_with fail
  refine (abs_z Zd.out.zi).mono ?_
  rintro e w25 ⟨r0, rfl, m0, b⟩
  obtain ⟨nf, xf, adf, qf, rfl, -, -, -, -, -⟩ := id m0
  replace Za := hid (Za.out.now b)
  replace Zo := hid (Zo.out.now b)
  replace Zd := hid (Zd.out.now b)
  replace Pa := hid (Pa.out.step b)
  replace Po := hid (Po.out.step b)
  replace HT := hid (HT.out.now b)
  replace G := hid (below_step G.out b)
  have lz26 := (show Below _ _ _ from b).size
  have Zf := hid m0
  clear b m0
  clear Zd
  obtain ⟨V27, hW⟩ : ∃ V27, w25.alloc (duo (.bool nf) (.slice adf xf.length qf)) = V27 := ⟨_, rfl⟩
  obtain ⟨kW, sz27⟩ := alloc1 w25 (duo (.bool nf) (.slice adf xf.length qf))
  rw [hW] at kW sz27
  replace Za := hid (Za.out.now kW)
  replace Zo := hid (Zo.out.now kW)
  replace Zf := hid (Zf.out.now kW)
  replace Pa := hid (Pa.out.step kW)
  replace Po := hid (Po.out.step kW)
  replace HT := hid (HT.out.now kW)
  replace G := hid (below_step G.out kW)
  have lz28 := (show Below _ _ _ from kW).size
  have Pf : Hid (Duo V27 (w25.heap.size) (.bool nf) (.slice adf xf.length qf)) := by unfold Hid; rw [← hW]; exact duo_at (by simp)
  clear kW
  have EW := hid hW
  clear hW
  go_wp2_with fail
  rw [EW.out]
  clear EW
  clear Po
  clear Zo
  refine wp_region_X (fun w' => w'.cell? ⟨w.heap.size, 0, none⟩ = some (.bool na) ∧ w'.cell? ⟨w.heap.size, 1, none⟩ = some (.slice ada xa.length ca)) [] (by kernel_rfl) ?_
  obtain ⟨D29, hD⟩ : ∃ D29, V27.drew = D29 := ⟨_, rfl⟩
  have b : Below V27.heap.size V27 D29 := by rw [← hD]; exact (Below.refl _ _).drew
  rw [hD]
  clear hD
  replace Za := hid (Za.out.now b)
  replace Zf := hid (Zf.out.now b)
  replace Pa := hid (Pa.out.step b)
  replace Pf := hid (Pf.out.step b)
  replace HT := hid (HT.out.now b)
  replace G := hid (below_step G.out b)
  have lz30 := (show Below _ _ _ from b).size
  clear b
  refine wpAnyX_take (i := 0) (oi := { dst := some 63, op := Op.load 24 (Operand.tmp 1), type := 24, pos := "outright.go:64", after := #[], guard := none }) (v := (.agg #[(.bool na), (.slice ada xa.length ca)])) rfl (by kernel_rfl) (fun _ _ _ h => h) (Or.inl ⟨by rfl, ?_⟩) ⟨Pa.out.c0, Pa.out.c1⟩ ?_
  · intro w hSw
    (try dsimp only at hSw)
    go_simp
  simp only [Act.put, List.setIfInBounds_toArray, List.set_cons_zero, List.set_cons_succ]
  refine wpAnyX_one (i := 1) (o := { dst := some 64, op := Op.call { callee := Callee.value (Operand.func 9), args := #[Operand.const (Value.int IntKind.i64 53)], argTypes := #[3] }, type := 24, pos := "outright.go:64", after := #[], guard := none }) (by kernel_rfl) rfl (fun K hK => ?_)
  go_simp
  go_at_call 9
  refine (two_53 _).mono ?_
  rintro e w31 ⟨r0, rfl, m0, b⟩
  obtain ⟨nt, xt, adt, qt, rfl, -, -, -⟩ := id m0
  replace Za := hid (Za.out.now b)
  replace Zf := hid (Zf.out.now b)
  replace Pa := hid (Pa.out.step b)
  replace Pf := hid (Pf.out.step b)
  replace HT := hid (HT.out.now b)
  replace G := hid (below_step G.out b)
  have lz32 := (show Below _ _ _ from b).size
  have Zt := hid m0
  clear b m0
  refine hK.out _ _ (fun _ _ => ⟨Pa.out.c0, Pa.out.c1⟩) ?_
  clear hK
  refine wpAnyX_one (i := 2) (o := { dst := some 65, op := Op.call { callee := Callee.value (Operand.func 10), args := #[Operand.tmp 63, Operand.tmp 64], argTypes := #[24, 24] }, type := 3, pos := "outright.go:64", after := #[{ on := 0, ground := Ground.data }, { on := 1, ground := Ground.data }, { on := 1, ground := Ground.chain }], guard := none }) (by kernel_rfl) rfl (fun K hK => ?_)
  go_simp
  go_at_call 10
  refine (abs_le Za.out Zt.out (by simpa using HN.out)).mono ?_
  rintro e w33 ⟨c2, rfl, hc2, b⟩
  replace Za := hid (Za.out.now b)
  replace Zf := hid (Zf.out.now b)
  replace Zt := hid (Zt.out.now b)
  replace Pa := hid (Pa.out.step b)
  replace Pf := hid (Pf.out.step b)
  replace HT := hid (HT.out.now b)
  replace G := hid (below_step G.out b)
  have lz34 := (show Below _ _ _ from b).size
  clear b 
  refine hK.out _ _ (fun _ _ => ⟨Pa.out.c0, Pa.out.c1⟩) ?_
  clear hK
  refine wpAnyX_pure (i := 3) (oi := { dst := some 66, op := Op.binOp BinOp.leq 3 (Operand.tmp 65) (Operand.const (Value.int IntKind.i64 0)) 3, type := 4, pos := "outright.go:64", after := #[{ on := 2, ground := Ground.data }], guard := none }) (v := (.bool (decide (c2 ≤ 0)))) rfl (by kernel_rfl) (fun _ _ _ h => h) (Or.inl ⟨by rfl, ?_⟩)  ?_
  · intro w hSw
    (try dsimp only at hSw)
    go_simp
  simp only [Act.put, List.setIfInBounds_toArray, List.set_cons_zero, List.set_cons_succ]
  refine wpAnyX_done (by kernel_rfl) ?_ _
  have d2 : decide (c2 ≤ 0) = true := decide_eq_true hc2
  have cf0 := Pf.out.c0
  have cf1 := Pf.out.c1
  go_wp2_with fail
  clear cf0 cf1
  refine (sign_no Zf.out.zi (by rw [HO.out]; rfl)).mono ?_
  rintro e w35 ⟨rfl, b⟩
  replace Za := hid (Za.out.now b)
  replace Zf := hid (Zf.out.now b)
  replace Zt := hid (Zt.out.now b)
  replace Pa := hid (Pa.out.step b)
  replace Pf := hid (Pf.out.step b)
  replace HT := hid (HT.out.now b)
  replace G := hid (below_step G.out b)
  have lz36 := (show Below _ _ _ from b).size
  clear b 
  have q1 : ((0 : Int) == 0) = true := rfl
  go_wp2
  go_ret
  exact ⟨rfl, G.out⟩
end Go.Proofs.YtbamffggnnacaaaDoor
