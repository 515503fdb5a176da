/-
  Near71: the law ApproxNearest for long numbers
-/
import Derived.Test.YtbamffggnnacaaaDoorQNz7
namespace Go.Proofs.YtbamffggnnacaaaDoor
open Go.RowKit
set_option linter.unusedVariables false

/-- What the loop over the neighbours keeps. -/
def NearH (w : World) (A : Int) (F ba bf : Nat) (na : Bool) (xa : List Int) (ada : Option Addr) (ca : Nat) (nf : Bool) (xf : List Int) (adf : Option Addr) (qf g : Nat) (s : Value) (wx : World) : Prop :=
  ∃ i : Nat, s = .int .i64 (i : Int) ∧ i ≤ 2 ∧ g = 2 - i ∧ Duo wx ba (.bool na) (.slice ada xa.length ca) ∧ Duo wx bf (.bool nf) (.slice adf xf.length qf) ∧ Zi wx (.agg #[.bool na, .slice ada xa.length ca]) A 1048576 ∧ Zi wx (.agg #[.bool nf, .slice adf xf.length qf]) ((A - swv F).natAbs : Int) (max 1048576 16386 + 1) ∧ Tab wx ∧ Below w.heap.size w wx
set_option maxHeartbeats 25600000 in
set_option maxRecDepth 100000 in
theorem nearest_long {w : World} {va : Value} {A : Int} (ha : Zi w va A 1048576) (hT : Tab w) (hN : 2 ^ 53 < A.natAbs) (hM : A.natAbs < lim7) :
    Calls Tryd.prog 3 #[va] w fun e w' => e = .returned (.bool true) ∧ Below w.heap.size w w' := by
  have hF := zw_lt A
  obtain ⟨hf1, hf2, hf3⟩ := near_f_fin hM
  have HF1 := hid hf1
  have HF3 := hid hf3
  clear hf1 hf3
  have HX := hid (near_f_next hN hM)
  have HY := hid (near_f_prev hN hM)
  obtain ⟨F, hFe⟩ : ∃ F, zw A 0 = F := ⟨_, rfl⟩
  have HFe := hid hFe
  rw [hFe] at hF HF1 HF3 HY hf2 HX
  clear hFe
  have HF := hid hF
  clear hF
  have HN := hid hN
  clear hN
  have HM := hid hM
  clear hM
  have k1 := fbits_run F
  have za0 := ha
  obtain ⟨na, xa, ada, ca, rfl, -, -, -⟩ := ha
  obtain ⟨W0, hW⟩ : ∃ W0, w.alloc (duo (.bool na) (.slice ada xa.length ca)) = W0 := ⟨_, rfl⟩
  obtain ⟨b0, sz0⟩ := alloc1 w (duo (.bool na) (.slice ada xa.length ca))
  rw [hW] at b0 sz0
  have Pa : Hid (Duo W0 (w.heap.size) (.bool na) (.slice ada xa.length ca)) := by unfold Hid; rw [← hW]; exact duo_at (by simp)
  have Za := hid (za0.now b0)
  clear za0
  have G := hid b0
  clear b0
  have EW := hid hW
  clear hW
  go_enter Tryd.func3, Tryd.ntmps3
  have HT := hid (hT.now G.out)
  clear hT
  skip
  go_wp2_with fail
  rw [EW.out]
  clear EW
  refine (awake7 HT.out).mono ?_
  rintro e w1 ⟨rfl, b⟩
  replace Za := hid (Za.out.now b)
  replace Pa := hid (Pa.out.step b)
  replace HT := hid (HT.out.now b)
  replace G := hid (below_step G.out b)
  have lz2 := (show Below _ _ _ from b).size
  clear b 
  have ca0 := Pa.out.c0
  have ca1 := Pa.out.c1
  go_wp2_with fail
  clear ca0 ca1
  refine (near_as Za.out HT.out (by decide) HFe.out).mono ?_
  rintro e w3 ⟨rfl, b⟩
  replace Za := hid (Za.out.now b)
  replace Pa := hid (Pa.out.step b)
  replace HT := hid (HT.out.now b)
  replace G := hid (below_step G.out b)
  have lz4 := (show Below _ _ _ from b).size
  clear b 
  go_wp2_with fail
  refine (two_1024 _).mono ?_
  rintro e w5 ⟨r0, rfl, m0, b⟩
  obtain ⟨np, xp, adp, qp, rfl, -, -, -⟩ := id m0
  replace Za := hid (Za.out.now b)
  replace Pa := hid (Pa.out.step b)
  replace HT := hid (HT.out.now b)
  replace G := hid (below_step G.out b)
  have lz6 := (show Below _ _ _ from b).size
  have Zp := hid m0
  clear b m0
  go_wp2_with fail
  refine (two_970 _).mono ?_
  rintro e w7 ⟨r0, rfl, m0, b⟩
  obtain ⟨nq, xq, adq, qq, rfl, -, -, -⟩ := id m0
  replace Za := hid (Za.out.now b)
  replace Zp := hid (Zp.out.now b)
  replace Pa := hid (Pa.out.step b)
  replace HT := hid (HT.out.now b)
  replace G := hid (below_step G.out b)
  have lz8 := (show Below _ _ _ from b).size
  have Zq := hid m0
  clear b m0
  go_wp2_with fail
  refine (sub_z Zp.out Zq.out (by decide) (by decide)).mono ?_
  rintro e w9 ⟨r0, rfl, m0, b⟩
  obtain ⟨nl, xl, adl, ql, rfl, -, -, -, -, -⟩ := id m0
  replace Za := hid (Za.out.now b)
  replace Zp := hid (Zp.out.now b)
  replace Zq := hid (Zq.out.now b)
  replace Pa := hid (Pa.out.step b)
  replace HT := hid (HT.out.now b)
  replace G := hid (below_step G.out b)
  have lz10 := (show Below _ _ _ from b).size
  have Zl := hid m0
  clear b m0
  clear Zp
  clear Zq
  obtain ⟨V11, hW⟩ : ∃ V11, w9.alloc (duo (.bool nl) (.slice adl xl.length ql)) = V11 := ⟨_, rfl⟩
  obtain ⟨kW, sz11⟩ := alloc1 w9 (duo (.bool nl) (.slice adl xl.length ql))
  rw [hW] at kW sz11
  replace Za := hid (Za.out.now kW)
  replace Zl := hid (Zl.out.now kW)
  replace Pa := hid (Pa.out.step kW)
  replace HT := hid (HT.out.now kW)
  replace G := hid (below_step G.out kW)
  have lz12 := (show Below _ _ _ from kW).size
  have Pl : Hid (Duo V11 (w9.heap.size) (.bool nl) (.slice adl xl.length ql)) := by unfold Hid; rw [← hW]; exact duo_at (by simp)
  clear kW
  have ca0 := Pa.out.c0
  have ca1 := Pa.out.c1
  have cl0 := Pl.out.c0
  have cl1 := Pl.out.c1
  rw [← hW] at ca0 ca1 cl0 cl1
  have EW := hid hW
  clear hW
  go_wp2_with fail
  rw [EW.out]
  clear EW
  clear ca0 ca1 cl0 cl1
  refine (abs_lt Za.out Zl.out.zi (by rw [lim_int]; exact HM.out)).mono ?_
  rintro e w13 ⟨c1, rfl, hc1, b⟩
  replace Za := hid (Za.out.now b)
  replace Zl := hid (Zl.out.now b)
  replace Pa := hid (Pa.out.step b)
  replace Pl := hid (Pl.out.step b)
  replace HT := hid (HT.out.now b)
  replace G := hid (below_step G.out b)
  have lz14 := (show Below _ _ _ from b).size
  clear b 
  have d1 : decide (0 ≤ c1) = false := decide_eq_false (by omega)
  clear Zl
  clear Pl
  go_wp2_with fail
  refine (whole_fin HF.out HF1.out _).mono ?_
  rintro e w15 ⟨r0, rfl, m0, b⟩
  obtain ⟨no, xo, ado, qo, rfl, -, -, -, -, -⟩ := id m0
  replace Za := hid (Za.out.now b)
  replace Pa := hid (Pa.out.step b)
  replace HT := hid (HT.out.now b)
  replace G := hid (below_step G.out b)
  have lz16 := (show Below _ _ _ from b).size
  have Zo := hid m0
  clear b m0
  obtain ⟨V17, hW⟩ : ∃ V17, w15.alloc (duo (.bool no) (.slice ado xo.length qo)) = V17 := ⟨_, rfl⟩
  obtain ⟨kW, sz17⟩ := alloc1 w15 (duo (.bool no) (.slice ado xo.length qo))
  rw [hW] at kW sz17
  replace Za := hid (Za.out.now kW)
  replace Zo := hid (Zo.out.now kW)
  replace Pa := hid (Pa.out.step kW)
  replace HT := hid (HT.out.now kW)
  replace G := hid (below_step G.out kW)
  have lz18 := (show Below _ _ _ from kW).size
  have Po : Hid (Duo V17 (w15.heap.size) (.bool no) (.slice ado xo.length qo)) := by unfold Hid; rw [← hW]; exact duo_at (by simp)
  clear kW
  have EW := hid hW
  clear hW
  go_wp2_with fail
  rw [EW.out]
  clear EW
  refine (finite_yes HF1.out _).mono ?_
  rintro e w19 ⟨rfl, b⟩
  replace Za := hid (Za.out.now b)
  replace Zo := hid (Zo.out.now b)
  replace Pa := hid (Pa.out.step b)
  replace Po := hid (Po.out.step b)
  replace HT := hid (HT.out.now b)
  replace G := hid (below_step G.out b)
  have lz20 := (show Below _ _ _ from b).size
  clear b 
  have q0 : ((0 : Int) != 0) = false := rfl
  have co0 := Po.out.c0
  have co1 := Po.out.c1
  go_wp2_with fail
  clear co0 co1
  refine (acmp_zero Zo.out.zi HF.out HF1.out HF3.out).mono ?_
  rintro e w21 ⟨rfl, b⟩
  replace Za := hid (Za.out.now b)
  replace Zo := hid (Zo.out.now b)
  replace Pa := hid (Pa.out.step b)
  replace Po := hid (Po.out.step b)
  replace HT := hid (HT.out.now b)
  replace G := hid (below_step G.out b)
  have lz22 := (show Below _ _ _ from b).size
  clear b 
  have ca0 := Pa.out.c0
  have ca1 := Pa.out.c1
  have co0 := Po.out.c0
  have co1 := Po.out.c1
  go_wp2_with fail
  clear ca0 ca1 co0 co1
  refine (sub_z Za.out Zo.out.zi (by decide) (by decide)).mono ?_
  rintro e w23 ⟨r0, rfl, m0, b⟩
  obtain ⟨nd, xd, add, qd, rfl, -, -, -, -, -⟩ := id m0
  replace Za := hid (Za.out.now b)
  replace Zo := hid (Zo.out.now b)
  replace Pa := hid (Pa.out.step b)
  replace Po := hid (Po.out.step b)
  replace HT := hid (HT.out.now b)
  replace G := hid (below_step G.out b)
  have lz24 := (show Below _ _ _ from b).size
  have Zd := hid m0
  clear b m0
  go_wp2_with fail
  refine (abs_z Zd.out.zi).mono ?_
  rintro e w25 ⟨r0, rfl, m0, b⟩
  obtain ⟨nf, xf, adf, qf, rfl, -, -, -, -, -⟩ := id m0
  replace Za := hid (Za.out.now b)
  replace Zo := hid (Zo.out.now b)
  replace Zd := hid (Zd.out.now b)
  replace Pa := hid (Pa.out.step b)
  replace Po := hid (Po.out.step b)
  replace HT := hid (HT.out.now b)
  replace G := hid (below_step G.out b)
  have lz26 := (show Below _ _ _ from b).size
  have Zf := hid m0
  clear b m0
  clear Zd
  obtain ⟨V27, hW⟩ : ∃ V27, w25.alloc (duo (.bool nf) (.slice adf xf.length qf)) = V27 := ⟨_, rfl⟩
  obtain ⟨kW, sz27⟩ := alloc1 w25 (duo (.bool nf) (.slice adf xf.length qf))
  rw [hW] at kW sz27
  replace Za := hid (Za.out.now kW)
  replace Zo := hid (Zo.out.now kW)
  replace Zf := hid (Zf.out.now kW)
  replace Pa := hid (Pa.out.step kW)
  replace Po := hid (Po.out.step kW)
  replace HT := hid (HT.out.now kW)
  replace G := hid (below_step G.out kW)
  have lz28 := (show Below _ _ _ from kW).size
  have Pf : Hid (Duo V27 (w25.heap.size) (.bool nf) (.slice adf xf.length qf)) := by unfold Hid; rw [← hW]; exact duo_at (by simp)
  clear kW
  have EW := hid hW
  clear hW
  go_wp2_with fail
  rw [EW.out]
  clear EW
  clear Po
  clear Zo
  refine wp_region_X (fun w' => w'.cell? ⟨w.heap.size, 0, none⟩ = some (.bool na) ∧ w'.cell? ⟨w.heap.size, 1, none⟩ = some (.slice ada xa.length ca)) [] (by kernel_rfl) ?_
  obtain ⟨D29, hD⟩ : ∃ D29, V27.drew = D29 := ⟨_, rfl⟩
  have b : Below V27.heap.size V27 D29 := by rw [← hD]; exact (Below.refl _ _).drew
  rw [hD]
  clear hD
  replace Za := hid (Za.out.now b)
  replace Zf := hid (Zf.out.now b)
  replace Pa := hid (Pa.out.step b)
  replace Pf := hid (Pf.out.step b)
  replace HT := hid (HT.out.now b)
  replace G := hid (below_step G.out b)
  have lz30 := (show Below _ _ _ from b).size
  clear b
  refine wpAnyX_take (i := 0) (oi := { dst := some 63, op := Op.load 24 (Operand.tmp 1), type := 24, pos := "outright.go:64", after := #[], guard := none }) (v := (.agg #[(.bool na), (.slice ada xa.length ca)])) rfl (by kernel_rfl) (fun _ _ _ h => h) (Or.inl ⟨by rfl, ?_⟩) ⟨Pa.out.c0, Pa.out.c1⟩ ?_
  · intro w hSw
    (try dsimp only at hSw)
    go_simp
  simp only [Act.put, List.setIfInBounds_toArray, List.set_cons_zero, List.set_cons_succ]
  refine wpAnyX_one (i := 1) (o := { dst := some 64, op := Op.call { callee := Callee.value (Operand.func 9), args := #[Operand.const (Value.int IntKind.i64 53)], argTypes := #[3] }, type := 24, pos := "outright.go:64", after := #[], guard := none }) (by kernel_rfl) rfl (fun K hK => ?_)
  go_simp
  go_at_call 9
  refine (two_53 _).mono ?_
  rintro e w31 ⟨r0, rfl, m0, b⟩
  obtain ⟨nt, xt, adt, qt, rfl, -, -, -⟩ := id m0
  replace Za := hid (Za.out.now b)
  replace Zf := hid (Zf.out.now b)
  replace Pa := hid (Pa.out.step b)
  replace Pf := hid (Pf.out.step b)
  replace HT := hid (HT.out.now b)
  replace G := hid (below_step G.out b)
  have lz32 := (show Below _ _ _ from b).size
  have Zt := hid m0
  clear b m0
  refine hK.out _ _ (fun _ _ => ⟨Pa.out.c0, Pa.out.c1⟩) ?_
  clear hK
  refine wpAnyX_one (i := 2) (o := { dst := some 65, op := Op.call { callee := Callee.value (Operand.func 10), args := #[Operand.tmp 63, Operand.tmp 64], argTypes := #[24, 24] }, type := 3, pos := "outright.go:64", after := #[{ on := 0, ground := Ground.data }, { on := 1, ground := Ground.data }, { on := 1, ground := Ground.chain }], guard := none }) (by kernel_rfl) rfl (fun K hK => ?_)
  go_simp
  go_at_call 10
  refine (abs_gt Za.out Zt.out (by simpa using HN.out)).mono ?_
  rintro e w33 ⟨c2, rfl, hc2, b⟩
  replace Za := hid (Za.out.now b)
  replace Zf := hid (Zf.out.now b)
  replace Zt := hid (Zt.out.now b)
  replace Pa := hid (Pa.out.step b)
  replace Pf := hid (Pf.out.step b)
  replace HT := hid (HT.out.now b)
  replace G := hid (below_step G.out b)
  have lz34 := (show Below _ _ _ from b).size
  clear b 
  refine hK.out _ _ (fun _ _ => ⟨Pa.out.c0, Pa.out.c1⟩) ?_
  clear hK
  refine wpAnyX_pure (i := 3) (oi := { dst := some 66, op := Op.binOp BinOp.leq 3 (Operand.tmp 65) (Operand.const (Value.int IntKind.i64 0)) 3, type := 4, pos := "outright.go:64", after := #[{ on := 2, ground := Ground.data }], guard := none }) (v := (.bool (decide (c2 ≤ 0)))) rfl (by kernel_rfl) (fun _ _ _ h => h) (Or.inl ⟨by rfl, ?_⟩)  ?_
  · intro w hSw
    (try dsimp only at hSw)
    go_simp
  simp only [Act.put, List.setIfInBounds_toArray, List.set_cons_zero, List.set_cons_succ]
  refine wpAnyX_done (by kernel_rfl) ?_ _
  have d2 : decide (c2 ≤ 0) = false := decide_eq_false (by omega)
  rw [d2]
  clear Zt
  have H0 : Hid (NearH w A F (w.heap.size) (w25.heap.size) na xa ada ca nf xf adf qf 2 (.int .i64 0) w33) := ⟨0, rfl, by omega, rfl, Pa.out, Pf.out, Za.out, Zf.out.zi, HT.out, G.out⟩
  clear Pa Pf Za Zf HT G
  go_wp2_with fail
  go_loopg [10] 2 (fun g s10 wx => NearH w A F (w.heap.size) (w25.heap.size) na xa ada ca nf xf adf qf g s10 wx)
  case atStart => exact H0.out
  case round =>
    clear H0
    obtain ⟨i, rfl, hi2, hg, pa, pf, za, zf, ht, hG⟩ := hrel
    have Pa := hid pa
    have Pf := hid pf
    have Za := hid za
    have Zf := hid zf
    have HT := hid ht
    have G := hid hG
    have HG := hid hg
    clear pa pf za zf ht hG hg
    rcases (show i = 0 ∨ i = 1 ∨ i = 2 by omega) with rfl | rfl | rfl
    · skip
      by_cases hfx : Fin7 (F + 1)
      · skip
        have k2 : ∀ w, (callFunc 18 #[.int .u64 ((F : Int) + 1)]).run Tryd.prog w = .ok (.value (.float .f64 (F + 1))) w := fun w => ffrom_run (F + 1) w
        have hF1 := HX.out.lt
        have qd : ((0 : Int) == 1) = false := rfl
        go_wp2_with fail
        refine (finite_yes hfx _).mono ?_
        rintro e w35 ⟨rfl, b⟩
        replace Za := hid (Za.out.now b)
        replace Zf := hid (Zf.out.now b)
        replace Pa := hid (Pa.out.step b)
        replace Pf := hid (Pf.out.step b)
        replace HT := hid (HT.out.now b)
        replace G := hid (below_step G.out b)
        have lz36 := (show Below _ _ _ from b).size
        clear b 
        go_wp2_with fail
        refine (whole_fin HX.out.lt hfx _).mono ?_
        rintro e w37 ⟨r0, rfl, m0, b⟩
        obtain ⟨nv, xv, adv, qv, rfl, -, -, -, -, -⟩ := id m0
        replace Za := hid (Za.out.now b)
        replace Zf := hid (Zf.out.now b)
        replace Pa := hid (Pa.out.step b)
        replace Pf := hid (Pf.out.step b)
        replace HT := hid (HT.out.now b)
        replace G := hid (below_step G.out b)
        have lz38 := (show Below _ _ _ from b).size
        have Zv := hid m0
        clear b m0
        obtain ⟨V39, hW⟩ : ∃ V39, w37.alloc (duo (.bool nv) (.slice adv xv.length qv)) = V39 := ⟨_, rfl⟩
        obtain ⟨kW, sz39⟩ := alloc1 w37 (duo (.bool nv) (.slice adv xv.length qv))
        rw [hW] at kW sz39
        replace Za := hid (Za.out.now kW)
        replace Zf := hid (Zf.out.now kW)
        replace Zv := hid (Zv.out.now kW)
        replace Pa := hid (Pa.out.step kW)
        replace Pf := hid (Pf.out.step kW)
        replace HT := hid (HT.out.now kW)
        replace G := hid (below_step G.out kW)
        have lz40 := (show Below _ _ _ from kW).size
        have Pv : Hid (Duo V39 (w37.heap.size) (.bool nv) (.slice adv xv.length qv)) := by unfold Hid; rw [← hW]; exact duo_at (by simp)
        clear kW
        have q0 : ((0 : Int) != 0) = false := rfl
        have EW := hid hW
        clear hW
        go_wp2_with fail
        rw [EW.out]
        clear EW
        refine wp_region_X (fun w' => w'.cell? ⟨w25.heap.size, 0, none⟩ = some (.bool nf) ∧ w'.cell? ⟨w25.heap.size, 1, none⟩ = some (.slice adf xf.length qf) ∧ w'.cell? ⟨w.heap.size, 0, none⟩ = some (.bool na) ∧ w'.cell? ⟨w.heap.size, 1, none⟩ = some (.slice ada xa.length ca) ∧ w'.cell? ⟨w37.heap.size, 0, none⟩ = some (.bool nv) ∧ w'.cell? ⟨w37.heap.size, 1, none⟩ = some (.slice adv xv.length qv)) [] (by kernel_rfl) ?_
        obtain ⟨D41, hD⟩ : ∃ D41, V39.drew = D41 := ⟨_, rfl⟩
        have b : Below V39.heap.size V39 D41 := by rw [← hD]; exact (Below.refl _ _).drew
        rw [hD]
        clear hD
        replace Za := hid (Za.out.now b)
        replace Zf := hid (Zf.out.now b)
        replace Zv := hid (Zv.out.now b)
        replace Pa := hid (Pa.out.step b)
        replace Pf := hid (Pf.out.step b)
        replace Pv := hid (Pv.out.step b)
        replace HT := hid (HT.out.now b)
        replace G := hid (below_step G.out b)
        have lz42 := (show Below _ _ _ from b).size
        clear b
        refine wpAnyX_take (i := 0) (oi := { dst := some 94, op := Op.load 24 (Operand.tmp 8), type := 24, pos := "outright.go:80", after := #[], guard := none }) (v := (.agg #[(.bool nf), (.slice adf xf.length qf)])) rfl (by kernel_rfl) (fun _ _ _ h => h) (Or.inl ⟨by rfl, ?_⟩) ⟨Pf.out.c0, Pf.out.c1, Pa.out.c0, Pa.out.c1, Pv.out.c0, Pv.out.c1⟩ ?_
        · intro w hSw
          (try dsimp only at hSw)
          go_simp
        simp only [Act.put, List.setIfInBounds_toArray, List.set_cons_zero, List.set_cons_succ]
        refine wpAnyX_take (i := 1) (oi := { dst := some 95, op := Op.load 24 (Operand.tmp 1), type := 24, pos := "outright.go:80", after := #[], guard := none }) (v := (.agg #[(.bool na), (.slice ada xa.length ca)])) rfl (by kernel_rfl) (fun _ _ _ h => h) (Or.inl ⟨by rfl, ?_⟩) ⟨Pf.out.c0, Pf.out.c1, Pa.out.c0, Pa.out.c1, Pv.out.c0, Pv.out.c1⟩ ?_
        · intro w hSw
          (try dsimp only at hSw)
          go_simp
        simp only [Act.put, List.setIfInBounds_toArray, List.set_cons_zero, List.set_cons_succ]
        refine wpAnyX_take (i := 2) (oi := { dst := some 96, op := Op.load 24 (Operand.tmp 12), type := 24, pos := "outright.go:80", after := #[], guard := none }) (v := (.agg #[(.bool nv), (.slice adv xv.length qv)])) rfl (by kernel_rfl) (fun _ _ _ h => h) (Or.inl ⟨by rfl, ?_⟩) ⟨Pf.out.c0, Pf.out.c1, Pa.out.c0, Pa.out.c1, Pv.out.c0, Pv.out.c1⟩ ?_
        · intro w hSw
          (try dsimp only at hSw)
          go_simp
        simp only [Act.put, List.setIfInBounds_toArray, List.set_cons_zero, List.set_cons_succ]
        refine wpAnyX_one (i := 3) (o := { dst := some 97, op := Op.call { callee := Callee.value (Operand.func 8), args := #[Operand.tmp 95, Operand.tmp 96], argTypes := #[24, 24] }, type := 24, pos := "outright.go:80", after := #[{ on := 1, ground := Ground.data }, { on := 2, ground := Ground.data }], guard := none }) (by kernel_rfl) rfl (fun K hK => ?_)
        go_simp
        go_at_call 8
        refine (sub_z Za.out Zv.out.zi (by decide) (by decide)).mono ?_
        rintro e w43 ⟨r0, rfl, m0, b⟩
        obtain ⟨nx, xx, adx, qx, rfl, -, -, -, -, -⟩ := id m0
        replace Za := hid (Za.out.now b)
        replace Zf := hid (Zf.out.now b)
        replace Zv := hid (Zv.out.now b)
        replace Pa := hid (Pa.out.step b)
        replace Pf := hid (Pf.out.step b)
        replace Pv := hid (Pv.out.step b)
        replace HT := hid (HT.out.now b)
        replace G := hid (below_step G.out b)
        have lz44 := (show Below _ _ _ from b).size
        have Zx := hid m0
        clear b m0
        refine hK.out _ _ (fun _ _ => ⟨Pf.out.c0, Pf.out.c1, Pa.out.c0, Pa.out.c1, Pv.out.c0, Pv.out.c1⟩) ?_
        clear hK
        refine wpAnyX_one (i := 4) (o := { dst := some 98, op := Op.call { callee := Callee.value (Operand.func 17), args := #[Operand.tmp 97], argTypes := #[24] }, type := 24, pos := "outright.go:80", after := #[{ on := 3, ground := Ground.data }, { on := 3, ground := Ground.chain }], guard := none }) (by kernel_rfl) rfl (fun K hK => ?_)
        go_simp
        go_at_call 17
        refine (abs_z Zx.out.zi).mono ?_
        rintro e w45 ⟨r0, rfl, m0, b⟩
        obtain ⟨ny, xy, ady, qy, rfl, -, -, -, -, -⟩ := id m0
        replace Za := hid (Za.out.now b)
        replace Zf := hid (Zf.out.now b)
        replace Zv := hid (Zv.out.now b)
        replace Zx := hid (Zx.out.now b)
        replace Pa := hid (Pa.out.step b)
        replace Pf := hid (Pf.out.step b)
        replace Pv := hid (Pv.out.step b)
        replace HT := hid (HT.out.now b)
        replace G := hid (below_step G.out b)
        have lz46 := (show Below _ _ _ from b).size
        have Zy := hid m0
        clear b m0
        refine hK.out _ _ (fun _ _ => ⟨Pf.out.c0, Pf.out.c1, Pa.out.c0, Pa.out.c1, Pv.out.c0, Pv.out.c1⟩) ?_
        clear hK
        refine wpAnyX_one (i := 5) (o := { dst := some 99, op := Op.call { callee := Callee.value (Operand.func 19), args := #[Operand.tmp 94, Operand.tmp 98], argTypes := #[24, 24] }, type := 3, pos := "outright.go:80", after := #[{ on := 0, ground := Ground.data }, { on := 4, ground := Ground.data }, { on := 4, ground := Ground.chain }], guard := none }) (by kernel_rfl) rfl (fun K hK => ?_)
        go_simp
        go_at_call 19
        refine (cmp_nb (F := F) Zf.out Zy.out.zi (by have := HX.out.le; rw [HFe.out] at this; exact this) (by have := HX.out.ev; rw [HFe.out] at this; exact this)).mono ?_
        rintro e w47 ⟨c3, rfl, hc3, b⟩
        replace Za := hid (Za.out.now b)
        replace Zf := hid (Zf.out.now b)
        replace Zv := hid (Zv.out.now b)
        replace Zx := hid (Zx.out.now b)
        replace Zy := hid (Zy.out.now b)
        replace Pa := hid (Pa.out.step b)
        replace Pf := hid (Pf.out.step b)
        replace Pv := hid (Pv.out.step b)
        replace HT := hid (HT.out.now b)
        replace G := hid (below_step G.out b)
        have lz48 := (show Below _ _ _ from b).size
        clear b 
        refine hK.out _ _ (fun _ _ => ⟨Pf.out.c0, Pf.out.c1, Pa.out.c0, Pa.out.c1, Pv.out.c0, Pv.out.c1⟩) ?_
        clear hK
        refine wpAnyX_pure (i := 6) (oi := { dst := some 14, op := Op.assign (Operand.tmp 99), type := 3, pos := "outright.go:80", after := #[{ on := 5, ground := Ground.data }, { on := 5, ground := Ground.chain }, { on := 0, ground := Ground.phase }, { on := 1, ground := Ground.phase }, { on := 2, ground := Ground.phase }, { on := 3, ground := Ground.phase }, { on := 4, ground := Ground.phase }, { on := 5, ground := Ground.phase }], guard := none }) (v := (.int .i64 c3)) rfl (by kernel_rfl) (fun _ _ _ h => h) (Or.inl ⟨by rfl, ?_⟩)  ?_
        · intro w hSw
          (try dsimp only at hSw)
          go_simp
        simp only [Act.put, List.setIfInBounds_toArray, List.set_cons_zero, List.set_cons_succ]
        refine wpAnyX_done (by kernel_rfl) ?_ _
        clear Zx
        clear Zy
        clear Zv
        clear Pv
        obtain ⟨hc4, hc5⟩ := hc3
        have d3 : decide (0 < c3) = false := decide_eq_false (by omega)
        by_cases hc6 : c3 = 0
        · skip
          have d4 : (c3 == 0) = true := by rw [hc6]; rfl
          have d5 : ((F : Int) % 2 == 1) = false := by rw [hc5 hc6]; rfl
          clear hc5 hc6
          have HN1 : Hid (NearH w A F (w.heap.size) (w25.heap.size) na xa ada ca nf xf adf qf (2 - (0 + 1)) (.int .i64 ((0 + 1 : Nat) : Int)) w47) := ⟨0 + 1, rfl, by omega, rfl, Pa.out, Pf.out, Za.out, Zf.out, HT.out, G.out⟩
          have HMM : Hid (2 - (0 + 1) < gk) := by unfold Hid; rw [HG.out]; omega
          clear Pa Pf Za Zf HT G HG
          go_wp2_with fail
          go_roundg (2 - (0 + 1))
          case rel => exact HN1.out
          case measure => exact HMM.out
        · skip
          have d4 : (c3 == 0) = false := by rw [beq_eq_false_iff_ne]; exact hc6
          clear hc5
          have HN1 : Hid (NearH w A F (w.heap.size) (w25.heap.size) na xa ada ca nf xf adf qf (2 - (0 + 1)) (.int .i64 ((0 + 1 : Nat) : Int)) w47) := ⟨0 + 1, rfl, by omega, rfl, Pa.out, Pf.out, Za.out, Zf.out, HT.out, G.out⟩
          have HMM : Hid (2 - (0 + 1) < gk) := by unfold Hid; rw [HG.out]; omega
          clear Pa Pf Za Zf HT G HG
          go_wp2_with fail
          go_roundg (2 - (0 + 1))
          case rel => exact HN1.out
          case measure => exact HMM.out
      · skip
        have k2 : ∀ w, (callFunc 18 #[.int .u64 ((F : Int) + 1)]).run Tryd.prog w = .ok (.value (.float .f64 (F + 1))) w := fun w => ffrom_run (F + 1) w
        have hF1 := HX.out.lt
        have qd : ((0 : Int) == 1) = false := rfl
        go_wp2_with fail
        refine (finite_no hfx _).mono ?_
        rintro e w35 ⟨rfl, b⟩
        replace Za := hid (Za.out.now b)
        replace Zf := hid (Zf.out.now b)
        replace Pa := hid (Pa.out.step b)
        replace Pf := hid (Pf.out.step b)
        replace HT := hid (HT.out.now b)
        replace G := hid (below_step G.out b)
        have lz36 := (show Below _ _ _ from b).size
        clear b 
        have HN1 : Hid (NearH w A F (w.heap.size) (w25.heap.size) na xa ada ca nf xf adf qf (2 - (0 + 1)) (.int .i64 ((0 + 1 : Nat) : Int)) w35) := ⟨0 + 1, rfl, by omega, rfl, Pa.out, Pf.out, Za.out, Zf.out, HT.out, G.out⟩
        have HMM : Hid (2 - (0 + 1) < gk) := by unfold Hid; rw [HG.out]; omega
        clear Pa Pf Za Zf HT G HG
        go_wp2_with fail
        go_roundg (2 - (0 + 1))
        case rel => exact HN1.out
        case measure => exact HMM.out
    · skip
      have k2 : ∀ w, (callFunc 18 #[.int .u64 ((F : Int) + 1)]).run Tryd.prog w = .ok (.value (.float .f64 (F + 1))) w := fun w => ffrom_run (F + 1) w
      have hF1 := HX.out.lt
      have hF2 := HY.out.1
      have k3 : ∀ w, (callFunc 18 #[.int .u64 ((F : Int) - 1)]).run Tryd.prog w = .ok (.value (.float .f64 (F - 1))) w := fun w => by
        rw [show (F : Int) - 1 = ((F - 1 : Nat) : Int) by omega]
        exact ffrom_run (F - 1) w
      have qd : ((1 : Int) == 1) = true := rfl
      go_wp2_with fail
      refine (finite_yes HY.out.2.1 _).mono ?_
      rintro e w35 ⟨rfl, b⟩
      replace Za := hid (Za.out.now b)
      replace Zf := hid (Zf.out.now b)
      replace Pa := hid (Pa.out.step b)
      replace Pf := hid (Pf.out.step b)
      replace HT := hid (HT.out.now b)
      replace G := hid (below_step G.out b)
      have lz36 := (show Below _ _ _ from b).size
      clear b 
      go_wp2_with fail
      refine (whole_fin HY.out.2.2.lt HY.out.2.1 _).mono ?_
      rintro e w37 ⟨r0, rfl, m0, b⟩
      obtain ⟨nv, xv, adv, qv, rfl, -, -, -, -, -⟩ := id m0
      replace Za := hid (Za.out.now b)
      replace Zf := hid (Zf.out.now b)
      replace Pa := hid (Pa.out.step b)
      replace Pf := hid (Pf.out.step b)
      replace HT := hid (HT.out.now b)
      replace G := hid (below_step G.out b)
      have lz38 := (show Below _ _ _ from b).size
      have Zv := hid m0
      clear b m0
      obtain ⟨V39, hW⟩ : ∃ V39, w37.alloc (duo (.bool nv) (.slice adv xv.length qv)) = V39 := ⟨_, rfl⟩
      obtain ⟨kW, sz39⟩ := alloc1 w37 (duo (.bool nv) (.slice adv xv.length qv))
      rw [hW] at kW sz39
      replace Za := hid (Za.out.now kW)
      replace Zf := hid (Zf.out.now kW)
      replace Zv := hid (Zv.out.now kW)
      replace Pa := hid (Pa.out.step kW)
      replace Pf := hid (Pf.out.step kW)
      replace HT := hid (HT.out.now kW)
      replace G := hid (below_step G.out kW)
      have lz40 := (show Below _ _ _ from kW).size
      have Pv : Hid (Duo V39 (w37.heap.size) (.bool nv) (.slice adv xv.length qv)) := by unfold Hid; rw [← hW]; exact duo_at (by simp)
      clear kW
      have q0 : ((0 : Int) != 0) = false := rfl
      have EW := hid hW
      clear hW
      go_wp2_with fail
      rw [EW.out]
      clear EW
      refine wp_region_X (fun w' => w'.cell? ⟨w25.heap.size, 0, none⟩ = some (.bool nf) ∧ w'.cell? ⟨w25.heap.size, 1, none⟩ = some (.slice adf xf.length qf) ∧ w'.cell? ⟨w.heap.size, 0, none⟩ = some (.bool na) ∧ w'.cell? ⟨w.heap.size, 1, none⟩ = some (.slice ada xa.length ca) ∧ w'.cell? ⟨w37.heap.size, 0, none⟩ = some (.bool nv) ∧ w'.cell? ⟨w37.heap.size, 1, none⟩ = some (.slice adv xv.length qv)) [] (by kernel_rfl) ?_
      obtain ⟨D41, hD⟩ : ∃ D41, V39.drew = D41 := ⟨_, rfl⟩
      have b : Below V39.heap.size V39 D41 := by rw [← hD]; exact (Below.refl _ _).drew
      rw [hD]
      clear hD
      replace Za := hid (Za.out.now b)
      replace Zf := hid (Zf.out.now b)
      replace Zv := hid (Zv.out.now b)
      replace Pa := hid (Pa.out.step b)
      replace Pf := hid (Pf.out.step b)
      replace Pv := hid (Pv.out.step b)
      replace HT := hid (HT.out.now b)
      replace G := hid (below_step G.out b)
      have lz42 := (show Below _ _ _ from b).size
      clear b
      refine wpAnyX_take (i := 0) (oi := { dst := some 94, op := Op.load 24 (Operand.tmp 8), type := 24, pos := "outright.go:80", after := #[], guard := none }) (v := (.agg #[(.bool nf), (.slice adf xf.length qf)])) rfl (by kernel_rfl) (fun _ _ _ h => h) (Or.inl ⟨by rfl, ?_⟩) ⟨Pf.out.c0, Pf.out.c1, Pa.out.c0, Pa.out.c1, Pv.out.c0, Pv.out.c1⟩ ?_
      · intro w hSw
        (try dsimp only at hSw)
        go_simp
      simp only [Act.put, List.setIfInBounds_toArray, List.set_cons_zero, List.set_cons_succ]
      refine wpAnyX_take (i := 1) (oi := { dst := some 95, op := Op.load 24 (Operand.tmp 1), type := 24, pos := "outright.go:80", after := #[], guard := none }) (v := (.agg #[(.bool na), (.slice ada xa.length ca)])) rfl (by kernel_rfl) (fun _ _ _ h => h) (Or.inl ⟨by rfl, ?_⟩) ⟨Pf.out.c0, Pf.out.c1, Pa.out.c0, Pa.out.c1, Pv.out.c0, Pv.out.c1⟩ ?_
      · intro w hSw
        (try dsimp only at hSw)
        go_simp
      simp only [Act.put, List.setIfInBounds_toArray, List.set_cons_zero, List.set_cons_succ]
      refine wpAnyX_take (i := 2) (oi := { dst := some 96, op := Op.load 24 (Operand.tmp 12), type := 24, pos := "outright.go:80", after := #[], guard := none }) (v := (.agg #[(.bool nv), (.slice adv xv.length qv)])) rfl (by kernel_rfl) (fun _ _ _ h => h) (Or.inl ⟨by rfl, ?_⟩) ⟨Pf.out.c0, Pf.out.c1, Pa.out.c0, Pa.out.c1, Pv.out.c0, Pv.out.c1⟩ ?_
      · intro w hSw
        (try dsimp only at hSw)
        go_simp
      simp only [Act.put, List.setIfInBounds_toArray, List.set_cons_zero, List.set_cons_succ]
      refine wpAnyX_one (i := 3) (o := { dst := some 97, op := Op.call { callee := Callee.value (Operand.func 8), args := #[Operand.tmp 95, Operand.tmp 96], argTypes := #[24, 24] }, type := 24, pos := "outright.go:80", after := #[{ on := 1, ground := Ground.data }, { on := 2, ground := Ground.data }], guard := none }) (by kernel_rfl) rfl (fun K hK => ?_)
      go_simp
      go_at_call 8
      refine (sub_z Za.out Zv.out.zi (by decide) (by decide)).mono ?_
      rintro e w43 ⟨r0, rfl, m0, b⟩
      obtain ⟨nx, xx, adx, qx, rfl, -, -, -, -, -⟩ := id m0
      replace Za := hid (Za.out.now b)
      replace Zf := hid (Zf.out.now b)
      replace Zv := hid (Zv.out.now b)
      replace Pa := hid (Pa.out.step b)
      replace Pf := hid (Pf.out.step b)
      replace Pv := hid (Pv.out.step b)
      replace HT := hid (HT.out.now b)
      replace G := hid (below_step G.out b)
      have lz44 := (show Below _ _ _ from b).size
      have Zx := hid m0
      clear b m0
      refine hK.out _ _ (fun _ _ => ⟨Pf.out.c0, Pf.out.c1, Pa.out.c0, Pa.out.c1, Pv.out.c0, Pv.out.c1⟩) ?_
      clear hK
      refine wpAnyX_one (i := 4) (o := { dst := some 98, op := Op.call { callee := Callee.value (Operand.func 17), args := #[Operand.tmp 97], argTypes := #[24] }, type := 24, pos := "outright.go:80", after := #[{ on := 3, ground := Ground.data }, { on := 3, ground := Ground.chain }], guard := none }) (by kernel_rfl) rfl (fun K hK => ?_)
      go_simp
      go_at_call 17
      refine (abs_z Zx.out.zi).mono ?_
      rintro e w45 ⟨r0, rfl, m0, b⟩
      obtain ⟨ny, xy, ady, qy, rfl, -, -, -, -, -⟩ := id m0
      replace Za := hid (Za.out.now b)
      replace Zf := hid (Zf.out.now b)
      replace Zv := hid (Zv.out.now b)
      replace Zx := hid (Zx.out.now b)
      replace Pa := hid (Pa.out.step b)
      replace Pf := hid (Pf.out.step b)
      replace Pv := hid (Pv.out.step b)
      replace HT := hid (HT.out.now b)
      replace G := hid (below_step G.out b)
      have lz46 := (show Below _ _ _ from b).size
      have Zy := hid m0
      clear b m0
      refine hK.out _ _ (fun _ _ => ⟨Pf.out.c0, Pf.out.c1, Pa.out.c0, Pa.out.c1, Pv.out.c0, Pv.out.c1⟩) ?_
      clear hK
      refine wpAnyX_one (i := 5) (o := { dst := some 99, op := Op.call { callee := Callee.value (Operand.func 19), args := #[Operand.tmp 94, Operand.tmp 98], argTypes := #[24, 24] }, type := 3, pos := "outright.go:80", after := #[{ on := 0, ground := Ground.data }, { on := 4, ground := Ground.data }, { on := 4, ground := Ground.chain }], guard := none }) (by kernel_rfl) rfl (fun K hK => ?_)
      go_simp
      go_at_call 19
      refine (cmp_nb (F := F) Zf.out Zy.out.zi (by have := HY.out.2.2.le; rw [HFe.out] at this; exact this) (by have := HY.out.2.2.ev; rw [HFe.out] at this; exact this)).mono ?_
      rintro e w47 ⟨c3, rfl, hc3, b⟩
      replace Za := hid (Za.out.now b)
      replace Zf := hid (Zf.out.now b)
      replace Zv := hid (Zv.out.now b)
      replace Zx := hid (Zx.out.now b)
      replace Zy := hid (Zy.out.now b)
      replace Pa := hid (Pa.out.step b)
      replace Pf := hid (Pf.out.step b)
      replace Pv := hid (Pv.out.step b)
      replace HT := hid (HT.out.now b)
      replace G := hid (below_step G.out b)
      have lz48 := (show Below _ _ _ from b).size
      clear b 
      refine hK.out _ _ (fun _ _ => ⟨Pf.out.c0, Pf.out.c1, Pa.out.c0, Pa.out.c1, Pv.out.c0, Pv.out.c1⟩) ?_
      clear hK
      refine wpAnyX_pure (i := 6) (oi := { dst := some 14, op := Op.assign (Operand.tmp 99), type := 3, pos := "outright.go:80", after := #[{ on := 5, ground := Ground.data }, { on := 5, ground := Ground.chain }, { on := 0, ground := Ground.phase }, { on := 1, ground := Ground.phase }, { on := 2, ground := Ground.phase }, { on := 3, ground := Ground.phase }, { on := 4, ground := Ground.phase }, { on := 5, ground := Ground.phase }], guard := none }) (v := (.int .i64 c3)) rfl (by kernel_rfl) (fun _ _ _ h => h) (Or.inl ⟨by rfl, ?_⟩)  ?_
      · intro w hSw
        (try dsimp only at hSw)
        go_simp
      simp only [Act.put, List.setIfInBounds_toArray, List.set_cons_zero, List.set_cons_succ]
      refine wpAnyX_done (by kernel_rfl) ?_ _
      clear Zx
      clear Zy
      clear Zv
      clear Pv
      obtain ⟨hc4, hc5⟩ := hc3
      have d3 : decide (0 < c3) = false := decide_eq_false (by omega)
      by_cases hc6 : c3 = 0
      · skip
        have d4 : (c3 == 0) = true := by rw [hc6]; rfl
        have d5 : ((F : Int) % 2 == 1) = false := by rw [hc5 hc6]; rfl
        clear hc5 hc6
        have HN1 : Hid (NearH w A F (w.heap.size) (w25.heap.size) na xa ada ca nf xf adf qf (2 - (1 + 1)) (.int .i64 ((1 + 1 : Nat) : Int)) w47) := ⟨1 + 1, rfl, by omega, rfl, Pa.out, Pf.out, Za.out, Zf.out, HT.out, G.out⟩
        have HMM : Hid (2 - (1 + 1) < gk) := by unfold Hid; rw [HG.out]; omega
        clear Pa Pf Za Zf HT G HG
        go_wp2_with fail
        go_roundg (2 - (1 + 1))
        case rel => exact HN1.out
        case measure => exact HMM.out
      · skip
        have d4 : (c3 == 0) = false := by rw [beq_eq_false_iff_ne]; exact hc6
        clear hc5
        have HN1 : Hid (NearH w A F (w.heap.size) (w25.heap.size) na xa ada ca nf xf adf qf (2 - (1 + 1)) (.int .i64 ((1 + 1 : Nat) : Int)) w47) := ⟨1 + 1, rfl, by omega, rfl, Pa.out, Pf.out, Za.out, Zf.out, HT.out, G.out⟩
        have HMM : Hid (2 - (1 + 1) < gk) := by unfold Hid; rw [HG.out]; omega
        clear Pa Pf Za Zf HT G HG
        go_wp2_with fail
        go_roundg (2 - (1 + 1))
        case rel => exact HN1.out
        case measure => exact HMM.out
    · skip
      go_wp2
      go_ret
      exact ⟨rfl, G.out⟩
end Go.Proofs.YtbamffggnnacaaaDoor
