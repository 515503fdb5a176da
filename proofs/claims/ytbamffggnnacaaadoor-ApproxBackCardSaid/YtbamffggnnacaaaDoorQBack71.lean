/-
  Back71: the law ApproxBack for whole numbers
-/
import Derived.Test.YtbamffggnnacaaaDoorQNz7ToNb7
namespace Go.Proofs.YtbamffggnnacaaaDoor
open Go.RowKit
set_option linter.unusedVariables false

set_option maxHeartbeats 25600000 in
set_option maxRecDepth 100000 in
theorem back_up {w : World} {F : Nat} (hF : F < 2 ^ 64) (hT : Tab w) (hf : Fin7 F) (h0 : rg F ≠ 0) {m k : Nat} (hs : Spl F (k : Int) m) :
    Calls Tryd.prog 4 #[.int .u64 (F : Int)] w fun e w' => e = .returned (.bool true) ∧ Below w.heap.size w w' := by
  have k2 := ffrom_run F
  have HT0 := hid hT
  have HF := hid hF
  clear hT hF
  have HS := hid hs
  have HF1 := hid hf
  have HF0 := hid h0
  obtain ⟨hn1, hn2, hm1, hm2, hm3⟩ := spl_facts hs
  have HB1 := hid (back_up_ratio hs HF.out hf h0)
  have HB3 := hid (back_up_tdiv hs)
  have HB4 := hid (back_up_cmp hs)
  have HB5 := hid (back_up_near hs HF.out hf h0)
  have ez : (FloatKind.f64.format.order F 0 == some .eq) = false := by
    show (Ieee.double.order F 0 == some .eq) = false
    rw [order_zero_eq, decide_eq_false h0]
  have lt : (FloatKind.f64.format.order F 0 == some .lt) = ng F := by
    show (Ieee.double.order F 0 == some .lt) = ng F
    rw [order_zero_lt hf, decide_eq_true h0, Bool.and_true]
  have qo : ((m : Int) % 2 == 0) = false := by rw [beq_eq_false_iff_ne]; omega
  have HO := hid (And.intro hm1 hm2)
  clear hs hf h0 hm1 hm2 hm3
  obtain ⟨M, hM⟩ : ∃ M, sgb (ng F) m = M := ⟨_, rfl⟩
  have HM := hid hM
  have HSP : Hid (∀ wz : World, Tab wz → Calls Tryd.prog 20 #[.float .f64 F] wz (GivesZn 0 (k : Int) wz M 1)) := fun wz t => split_as HF.out HF1.out HF0.out HS.out t hM
  rw [hM] at HB1 HB3
  clear hM
  generalize hng : ng F = NG at *
  clear hng
  have qn : (NG != NG) = false := by simp
  have G : Hid (Below w.heap.size w w) := Below.refl _ _
  go_enter Tryd.func4, Tryd.ntmps4
  go_wp2_with fail
  refine (awake7 HT0.out).mono ?_
  rintro e w1 ⟨rfl, b⟩
  replace G := hid (below_step G.out b)
  have lz2 := (show Below _ _ _ from b).size
  clear b 
  go_wp2_with fail
  refine (HSP.out _ (HT0.out.now G.out)).mono ?_
  rintro e w3 ⟨r0, rfl, m0, b⟩
  obtain ⟨nm, xm, adm, qm, rfl, -, -, -, -, -⟩ := id m0
  replace G := hid (below_step G.out b)
  have lz4 := (show Below _ _ _ from b).size
  have Zm := hid m0
  clear b m0
  obtain ⟨rfl, hl1, hwd⟩ := odd_form Zm.out HM.out.symm HO.out.1 HO.out.2
  rw [hl1] at Zm ⊢
  have HW := hid hwd
  clear hwd hl1
  obtain ⟨V5, hW⟩ : ∃ V5, w3.alloc (duo (.bool nm) (.slice adm 1 qm)) = V5 := ⟨_, rfl⟩
  obtain ⟨kW, sz5⟩ := alloc1 w3 (duo (.bool nm) (.slice adm 1 qm))
  rw [hW] at kW sz5
  replace Zm := hid (Zm.out.now kW)
  replace HW := hid (HW.out.now kW)
  replace G := hid (below_step G.out kW)
  have lz6 := (show Below _ _ _ from kW).size
  have Pm : Hid (Duo V5 (w3.heap.size) (.bool nm) (.slice adm 1 qm)) := by unfold Hid; rw [← hW]; exact duo_at (by simp)
  clear kW
  have EW := hid hW
  clear hW
  go_wp2_with fail
  rw [EW.out]
  clear EW
  refine (whole_fin HF.out HF1.out _).mono ?_
  rintro e w7 ⟨r0, rfl, m0, b⟩
  obtain ⟨no, xo, ado, qo, rfl, -, -, -, -, -⟩ := id m0
  replace Zm := hid (Zm.out.now b)
  replace Pm := hid (Pm.out.step b)
  replace HW := hid (HW.out.now b)
  replace G := hid (below_step G.out b)
  have lz8 := (show Below _ _ _ from b).size
  have Zo := hid m0
  clear b m0
  obtain ⟨V9, hW⟩ : ∃ V9, w7.alloc (duo (.bool no) (.slice ado xo.length qo)) = V9 := ⟨_, rfl⟩
  obtain ⟨kW, sz9⟩ := alloc1 w7 (duo (.bool no) (.slice ado xo.length qo))
  rw [hW] at kW sz9
  replace Zm := hid (Zm.out.now kW)
  replace Zo := hid (Zo.out.now kW)
  replace Pm := hid (Pm.out.step kW)
  replace HW := hid (HW.out.now kW)
  replace G := hid (below_step G.out kW)
  have lz10 := (show Below _ _ _ from kW).size
  have Po : Hid (Duo V9 (w7.heap.size) (.bool no) (.slice ado xo.length qo)) := by unfold Hid; rw [← hW]; exact duo_at (by simp)
  clear kW
  have EW := hid hW
  clear hW
  go_wp2_with fail
  rw [EW.out]
  clear EW
  refine (finite_yes HF1.out _).mono ?_
  rintro e w11 ⟨rfl, b⟩
  replace Zm := hid (Zm.out.now b)
  replace Zo := hid (Zo.out.now b)
  replace Pm := hid (Pm.out.step b)
  replace Po := hid (Po.out.step b)
  replace HW := hid (HW.out.now b)
  replace G := hid (below_step G.out b)
  have lz12 := (show Below _ _ _ from b).size
  clear b 
  have q0 : ((0 : Int) != 0) = false := rfl
  have q1 : ((1 : Int) != 1) = false := rfl
  obtain ⟨wg, wo, rfl, wc0, -⟩ := HW.out.ex
  have cm0 := Pm.out.c0
  have cm1 := Pm.out.c1
  go_wp2_with fail
  clear cm0 cm1
  clear HW wc0
  go_cut [9, 10] from 15 (fun s1 s2 wx => Met2 w11 wx s1 s2 (.bool nm) (.slice (some ⟨wg, wo, none⟩) 1 qm) ((2 ^ 0 : Nat) : Int) 18)
  case first =>
    have GR : Hid (Below w11.heap.size w11 w11) := Below.refl _ _
    refine wp_region_X (fun w' => w'.cell? ⟨w3.heap.size, 0, none⟩ = some (.bool nm) ∧ w'.cell? ⟨w3.heap.size, 1, none⟩ = some (.slice (some ⟨wg, wo, none⟩) 1 qm)) [] (by kernel_rfl) ?_
    obtain ⟨D13, hD⟩ : ∃ D13, w11.drew = D13 := ⟨_, rfl⟩
    have b : Below w11.heap.size w11 D13 := by rw [← hD]; exact (Below.refl _ _).drew
    rw [hD]
    clear hD
    replace Zm := hid (Zm.out.now b)
    replace Zo := hid (Zo.out.now b)
    replace Pm := hid (Pm.out.step b)
    replace Po := hid (Po.out.step b)
    replace G := hid (below_step G.out b)
    replace GR := hid (below_step GR.out b)
    have lz14 := (show Below _ _ _ from b).size
    clear b
    refine wpAnyX_take (i := 0) (oi := { dst := some 86, op := Op.load 24 (Operand.tmp 4), type := 24, pos := "outright.go:108", after := #[], guard := none }) (v := (.agg #[(.bool nm), (.slice (some ⟨wg, wo, none⟩) 1 qm)])) rfl (by kernel_rfl) (fun _ _ _ h => h) (Or.inl ⟨by rfl, ?_⟩) ⟨Pm.out.c0, Pm.out.c1⟩ ?_
    · intro w hSw
      (try dsimp only at hSw)
      go_simp
    simp only [Act.put, List.setIfInBounds_toArray, List.set_cons_zero, List.set_cons_succ]
    refine wpAnyX_three (i := 1) (j := 2) (k := 3) (oi := { dst := some 87, op := Op.call { callee := Callee.value (Operand.func 9), args := #[Operand.const (Value.int IntKind.i64 0)], argTypes := #[3] }, type := 24, pos := "outright.go:108", after := #[], guard := none }) (oj := { dst := some 9, op := Op.alloc 24, type := 0, pos := "outright.go:108", after := #[], guard := none }) (ok := { dst := some 10, op := Op.alloc 24, type := 0, pos := "outright.go:108", after := #[], guard := none }) (by kernel_rfl) rfl rfl rfl (fun K hK => ?_) (fun K hK => ?_) (fun K hK => ?_)
    · skip
      go_simp
      go_at_call 9
      refine (two_as (k := 0) (by decide) rfl _).mono ?_
      rintro e w15 ⟨r0, rfl, m0, b⟩
      obtain ⟨nt, xt, adt, qt, rfl, -, -, -⟩ := id m0
      replace Zm := hid (Zm.out.now b)
      replace Zo := hid (Zo.out.now b)
      replace Pm := hid (Pm.out.step b)
      replace Po := hid (Po.out.step b)
      replace G := hid (below_step G.out b)
      replace GR := hid (below_step GR.out b)
      have lz16 := (show Below _ _ _ from b).size
      have Zt := hid m0
      clear b m0
      refine hK.out _ _ (fun _ _ => ⟨Pm.out.c0, Pm.out.c1⟩) ?_
      clear hK
      refine wpAnyX_two (i := 2) (j := 3) (oi := { dst := some 9, op := Op.alloc 24, type := 0, pos := "outright.go:108", after := #[], guard := none }) (oj := { dst := some 10, op := Op.alloc 24, type := 0, pos := "outright.go:108", after := #[], guard := none }) (by kernel_rfl) rfl rfl (fun K hK => ?_) (fun K hK => ?_)
      · skip
        go_simp
        obtain ⟨V17, hW⟩ : ∃ V17, w15.alloc zbox = V17 := ⟨_, rfl⟩
        obtain ⟨kW, sz17⟩ := alloc1 w15 zbox
        rw [hW] at kW sz17
        replace sz17 : w15.heap.size < V17.heap.size := by omega
        replace Zm := hid (Zm.out.now kW)
        replace Zo := hid (Zo.out.now kW)
        replace Zt := hid (Zt.out.now kW)
        replace Pm := hid (Pm.out.step kW)
        replace Po := hid (Po.out.step kW)
        replace G := hid (below_step G.out kW)
        replace GR := hid (below_step GR.out kW)
        have lz18 := (show Below _ _ _ from kW).size
        have PN9 : Hid (Duo V17 (w15.heap.size) (.bool false) (.slice none 0 0)) := by unfold Hid; rw [← hW]; exact duo_at rfl
        rw [hW]
        clear hW kW
        refine hK.out _ _ (fun _ _ => ⟨Pm.out.c0, Pm.out.c1⟩) ?_
        clear hK
        try simp only [Act.put]
        refine wpAnyX_one (i := 3) (o := { dst := some 10, op := Op.alloc 24, type := 0, pos := "outright.go:108", after := #[], guard := none }) (by kernel_rfl) rfl (fun K hK => ?_)
        go_simp
        obtain ⟨V19, hW⟩ : ∃ V19, V17.alloc zbox = V19 := ⟨_, rfl⟩
        obtain ⟨kW, sz19⟩ := alloc1 V17 zbox
        rw [hW] at kW sz19
        replace sz19 : V17.heap.size < V19.heap.size := by omega
        replace Zm := hid (Zm.out.now kW)
        replace Zo := hid (Zo.out.now kW)
        replace Zt := hid (Zt.out.now kW)
        replace Pm := hid (Pm.out.step kW)
        replace Po := hid (Po.out.step kW)
        replace PN9 := hid (PN9.out.step kW)
        replace G := hid (below_step G.out kW)
        replace GR := hid (below_step GR.out kW)
        have lz20 := (show Below _ _ _ from kW).size
        have PN10 : Hid (Duo V19 (V17.heap.size) (.bool false) (.slice none 0 0)) := by unfold Hid; rw [← hW]; exact duo_at rfl
        rw [hW]
        clear hW kW
        refine hK.out _ _ (fun _ _ => ⟨Pm.out.c0, Pm.out.c1⟩) ?_
        clear hK
        try simp only [Act.put]
        refine wpAnyX_one (i := 4) (o := { dst := none, op := Op.store 24 (Operand.tmp 9) (Operand.tmp 86), type := 0, pos := "outright.go:108", after := #[{ on := 2, ground := Ground.data }, { on := 0, ground := Ground.data }, { on := 1, ground := Ground.chain }, { on := 0, ground := Ground.phase }, { on := 1, ground := Ground.textOnly Departure.lateStoresUnsure }, { on := 2, ground := Ground.phase }, { on := 3, ground := Ground.phase }], guard := none }) (by kernel_rfl) rfl (fun K hK => ?_)
        have cN90 := PN9.out.c0
        have cN91 := PN9.out.c1
        have fN90 := PN9.out.fz 0
        have fN91 := PN9.out.fz 1
        go_simp
        clear cN90 cN91 fN90 fN91
        obtain ⟨V21, hW⟩ : ∃ V21, (V19.setCell ⟨w15.heap.size, 0, none⟩ (.bool nm)).setCell ⟨w15.heap.size, 1, none⟩ (.slice (some ⟨wg, wo, none⟩) 1 qm) = V21 := ⟨_, rfl⟩
        replace Zm := hid ((Zm.out).box (PN9.out) (.bool nm) (.slice (some ⟨wg, wo, none⟩) 1 qm))
        replace Zo := hid ((Zo.out).box (PN9.out) (.bool nm) (.slice (some ⟨wg, wo, none⟩) 1 qm))
        replace Zt := hid ((Zt.out).wk ((PN9.out).wk (.bool nm) (.slice (some ⟨wg, wo, none⟩) 1 qm)))
        replace Pm := hid ((Pm.out).box (b' := w15.heap.size) (by omega) (.bool nm) (.slice (some ⟨wg, wo, none⟩) 1 qm))
        replace Po := hid ((Po.out).box (b' := w15.heap.size) (by omega) (.bool nm) (.slice (some ⟨wg, wo, none⟩) 1 qm))
        replace PN9 := hid ((PN9.out).set (.bool nm) (.slice (some ⟨wg, wo, none⟩) 1 qm))
        replace PN10 := hid ((PN10.out).box (b' := w15.heap.size) (by omega) (.bool nm) (.slice (some ⟨wg, wo, none⟩) 1 qm))
        replace G : Hid (Below w.heap.size w (((V19.setCell ⟨w15.heap.size, 0, none⟩ (.bool nm)).setCell ⟨w15.heap.size, 1, none⟩ (.slice (some ⟨wg, wo, none⟩) 1 qm)))) := bset (bset (G.out) (by omega)) (by omega)
        replace GR : Hid (Below w11.heap.size w11 (((V19.setCell ⟨w15.heap.size, 0, none⟩ (.bool nm)).setCell ⟨w15.heap.size, 1, none⟩ (.slice (some ⟨wg, wo, none⟩) 1 qm)))) := bset (bset (GR.out) (by omega)) (by omega)
        have sz21 : V21.heap.size = V19.heap.size := by rw [← hW]; simp
        rw [hW] at Zm Zo Zt Pm Po PN9 PN10 G GR
        rw [hW]
        clear hW
        refine hK.out _ _ (fun _ _ => ⟨Pm.out.c0, Pm.out.c1⟩) ?_
        clear hK
        try simp only [Act.put]
        refine wpAnyX_one (i := 5) (o := { dst := none, op := Op.store 24 (Operand.tmp 10) (Operand.tmp 87), type := 0, pos := "outright.go:108", after := #[{ on := 3, ground := Ground.data }, { on := 1, ground := Ground.data }, { on := 4, ground := Ground.chain }, { on := 0, ground := Ground.phase }, { on := 1, ground := Ground.phase }, { on := 2, ground := Ground.phase }, { on := 3, ground := Ground.phase }, { on := 4, ground := Ground.phase }], guard := none }) (by kernel_rfl) rfl (fun K hK => ?_)
        have cN100 := PN10.out.c0
        have cN101 := PN10.out.c1
        have fN100 := PN10.out.fz 0
        have fN101 := PN10.out.fz 1
        go_simp
        clear cN100 cN101 fN100 fN101
        obtain ⟨V22, hW⟩ : ∃ V22, (V21.setCell ⟨V17.heap.size, 0, none⟩ (.bool nt)).setCell ⟨V17.heap.size, 1, none⟩ (.slice adt xt.length qt) = V22 := ⟨_, rfl⟩
        replace Zm := hid ((Zm.out).box (PN10.out) (.bool nt) (.slice adt xt.length qt))
        replace Zo := hid ((Zo.out).box (PN10.out) (.bool nt) (.slice adt xt.length qt))
        replace Zt := hid ((Zt.out).wk ((PN10.out).wk (.bool nt) (.slice adt xt.length qt)))
        replace Pm := hid ((Pm.out).box (b' := V17.heap.size) (by omega) (.bool nt) (.slice adt xt.length qt))
        replace Po := hid ((Po.out).box (b' := V17.heap.size) (by omega) (.bool nt) (.slice adt xt.length qt))
        replace PN9 := hid ((PN9.out).box (b' := V17.heap.size) (by omega) (.bool nt) (.slice adt xt.length qt))
        replace PN10 := hid ((PN10.out).set (.bool nt) (.slice adt xt.length qt))
        replace G : Hid (Below w.heap.size w (((V21.setCell ⟨V17.heap.size, 0, none⟩ (.bool nt)).setCell ⟨V17.heap.size, 1, none⟩ (.slice adt xt.length qt)))) := bset (bset (G.out) (by omega)) (by omega)
        replace GR : Hid (Below w11.heap.size w11 (((V21.setCell ⟨V17.heap.size, 0, none⟩ (.bool nt)).setCell ⟨V17.heap.size, 1, none⟩ (.slice adt xt.length qt)))) := bset (bset (GR.out) (by omega)) (by omega)
        have sz22 : V22.heap.size = V21.heap.size := by rw [← hW]; simp
        rw [hW] at Zm Zo Zt Pm Po PN9 PN10 G GR
        rw [hW]
        clear hW
        refine hK.out _ _ (fun _ _ => ⟨Pm.out.c0, Pm.out.c1⟩) ?_
        clear hK
        try simp only [Act.put]
        refine wpAnyX_done (by kernel_rfl) ?_ _
        go_wp2_with fail
        go_meet
        exact ⟨_, _, _, _, _, _, rfl, rfl, GR.out, by omega, by omega, PN9.out.blk, PN10.out.blk, by omega, PN9.out, PN10.out, Zt.out⟩
      · skip
        go_simp
        obtain ⟨V23, hW⟩ : ∃ V23, w15.alloc zbox = V23 := ⟨_, rfl⟩
        obtain ⟨kW, sz23⟩ := alloc1 w15 zbox
        rw [hW] at kW sz23
        replace sz23 : w15.heap.size < V23.heap.size := by omega
        replace Zm := hid (Zm.out.now kW)
        replace Zo := hid (Zo.out.now kW)
        replace Zt := hid (Zt.out.now kW)
        replace Pm := hid (Pm.out.step kW)
        replace Po := hid (Po.out.step kW)
        replace G := hid (below_step G.out kW)
        replace GR := hid (below_step GR.out kW)
        have lz24 := (show Below _ _ _ from kW).size
        have PN10 : Hid (Duo V23 (w15.heap.size) (.bool false) (.slice none 0 0)) := by unfold Hid; rw [← hW]; exact duo_at rfl
        rw [hW]
        clear hW kW
        refine hK.out _ _ (fun _ _ => ⟨Pm.out.c0, Pm.out.c1⟩) ?_
        clear hK
        try simp only [Act.put]
        refine wpAnyX_one (i := 2) (o := { dst := some 9, op := Op.alloc 24, type := 0, pos := "outright.go:108", after := #[], guard := none }) (by kernel_rfl) rfl (fun K hK => ?_)
        go_simp
        obtain ⟨V25, hW⟩ : ∃ V25, V23.alloc zbox = V25 := ⟨_, rfl⟩
        obtain ⟨kW, sz25⟩ := alloc1 V23 zbox
        rw [hW] at kW sz25
        replace sz25 : V23.heap.size < V25.heap.size := by omega
        replace Zm := hid (Zm.out.now kW)
        replace Zo := hid (Zo.out.now kW)
        replace Zt := hid (Zt.out.now kW)
        replace Pm := hid (Pm.out.step kW)
        replace Po := hid (Po.out.step kW)
        replace PN10 := hid (PN10.out.step kW)
        replace G := hid (below_step G.out kW)
        replace GR := hid (below_step GR.out kW)
        have lz26 := (show Below _ _ _ from kW).size
        have PN9 : Hid (Duo V25 (V23.heap.size) (.bool false) (.slice none 0 0)) := by unfold Hid; rw [← hW]; exact duo_at rfl
        rw [hW]
        clear hW kW
        refine hK.out _ _ (fun _ _ => ⟨Pm.out.c0, Pm.out.c1⟩) ?_
        clear hK
        try simp only [Act.put]
        refine wpAnyX_one (i := 4) (o := { dst := none, op := Op.store 24 (Operand.tmp 9) (Operand.tmp 86), type := 0, pos := "outright.go:108", after := #[{ on := 2, ground := Ground.data }, { on := 0, ground := Ground.data }, { on := 1, ground := Ground.chain }, { on := 0, ground := Ground.phase }, { on := 1, ground := Ground.textOnly Departure.lateStoresUnsure }, { on := 2, ground := Ground.phase }, { on := 3, ground := Ground.phase }], guard := none }) (by kernel_rfl) rfl (fun K hK => ?_)
        have cN90 := PN9.out.c0
        have cN91 := PN9.out.c1
        have fN90 := PN9.out.fz 0
        have fN91 := PN9.out.fz 1
        go_simp
        clear cN90 cN91 fN90 fN91
        obtain ⟨V27, hW⟩ : ∃ V27, (V25.setCell ⟨V23.heap.size, 0, none⟩ (.bool nm)).setCell ⟨V23.heap.size, 1, none⟩ (.slice (some ⟨wg, wo, none⟩) 1 qm) = V27 := ⟨_, rfl⟩
        replace Zm := hid ((Zm.out).box (PN9.out) (.bool nm) (.slice (some ⟨wg, wo, none⟩) 1 qm))
        replace Zo := hid ((Zo.out).box (PN9.out) (.bool nm) (.slice (some ⟨wg, wo, none⟩) 1 qm))
        replace Zt := hid ((Zt.out).wk ((PN9.out).wk (.bool nm) (.slice (some ⟨wg, wo, none⟩) 1 qm)))
        replace Pm := hid ((Pm.out).box (b' := V23.heap.size) (by omega) (.bool nm) (.slice (some ⟨wg, wo, none⟩) 1 qm))
        replace Po := hid ((Po.out).box (b' := V23.heap.size) (by omega) (.bool nm) (.slice (some ⟨wg, wo, none⟩) 1 qm))
        replace PN10 := hid ((PN10.out).box (b' := V23.heap.size) (by omega) (.bool nm) (.slice (some ⟨wg, wo, none⟩) 1 qm))
        replace PN9 := hid ((PN9.out).set (.bool nm) (.slice (some ⟨wg, wo, none⟩) 1 qm))
        replace G : Hid (Below w.heap.size w (((V25.setCell ⟨V23.heap.size, 0, none⟩ (.bool nm)).setCell ⟨V23.heap.size, 1, none⟩ (.slice (some ⟨wg, wo, none⟩) 1 qm)))) := bset (bset (G.out) (by omega)) (by omega)
        replace GR : Hid (Below w11.heap.size w11 (((V25.setCell ⟨V23.heap.size, 0, none⟩ (.bool nm)).setCell ⟨V23.heap.size, 1, none⟩ (.slice (some ⟨wg, wo, none⟩) 1 qm)))) := bset (bset (GR.out) (by omega)) (by omega)
        have sz27 : V27.heap.size = V25.heap.size := by rw [← hW]; simp
        rw [hW] at Zm Zo Zt Pm Po PN10 PN9 G GR
        rw [hW]
        clear hW
        refine hK.out _ _ (fun _ _ => ⟨Pm.out.c0, Pm.out.c1⟩) ?_
        clear hK
        try simp only [Act.put]
        refine wpAnyX_one (i := 5) (o := { dst := none, op := Op.store 24 (Operand.tmp 10) (Operand.tmp 87), type := 0, pos := "outright.go:108", after := #[{ on := 3, ground := Ground.data }, { on := 1, ground := Ground.data }, { on := 4, ground := Ground.chain }, { on := 0, ground := Ground.phase }, { on := 1, ground := Ground.phase }, { on := 2, ground := Ground.phase }, { on := 3, ground := Ground.phase }, { on := 4, ground := Ground.phase }], guard := none }) (by kernel_rfl) rfl (fun K hK => ?_)
        have cN100 := PN10.out.c0
        have cN101 := PN10.out.c1
        have fN100 := PN10.out.fz 0
        have fN101 := PN10.out.fz 1
        go_simp
        clear cN100 cN101 fN100 fN101
        obtain ⟨V28, hW⟩ : ∃ V28, (V27.setCell ⟨w15.heap.size, 0, none⟩ (.bool nt)).setCell ⟨w15.heap.size, 1, none⟩ (.slice adt xt.length qt) = V28 := ⟨_, rfl⟩
        replace Zm := hid ((Zm.out).box (PN10.out) (.bool nt) (.slice adt xt.length qt))
        replace Zo := hid ((Zo.out).box (PN10.out) (.bool nt) (.slice adt xt.length qt))
        replace Zt := hid ((Zt.out).wk ((PN10.out).wk (.bool nt) (.slice adt xt.length qt)))
        replace Pm := hid ((Pm.out).box (b' := w15.heap.size) (by omega) (.bool nt) (.slice adt xt.length qt))
        replace Po := hid ((Po.out).box (b' := w15.heap.size) (by omega) (.bool nt) (.slice adt xt.length qt))
        replace PN10 := hid ((PN10.out).set (.bool nt) (.slice adt xt.length qt))
        replace PN9 := hid ((PN9.out).box (b' := w15.heap.size) (by omega) (.bool nt) (.slice adt xt.length qt))
        replace G : Hid (Below w.heap.size w (((V27.setCell ⟨w15.heap.size, 0, none⟩ (.bool nt)).setCell ⟨w15.heap.size, 1, none⟩ (.slice adt xt.length qt)))) := bset (bset (G.out) (by omega)) (by omega)
        replace GR : Hid (Below w11.heap.size w11 (((V27.setCell ⟨w15.heap.size, 0, none⟩ (.bool nt)).setCell ⟨w15.heap.size, 1, none⟩ (.slice adt xt.length qt)))) := bset (bset (GR.out) (by omega)) (by omega)
        have sz28 : V28.heap.size = V27.heap.size := by rw [← hW]; simp
        rw [hW] at Zm Zo Zt Pm Po PN10 PN9 G GR
        rw [hW]
        clear hW
        refine hK.out _ _ (fun _ _ => ⟨Pm.out.c0, Pm.out.c1⟩) ?_
        clear hK
        try simp only [Act.put]
        refine wpAnyX_done (by kernel_rfl) ?_ _
        go_wp2_with fail
        go_meet
        exact ⟨_, _, _, _, _, _, rfl, rfl, GR.out, by omega, by omega, PN9.out.blk, PN10.out.blk, by omega, PN9.out, PN10.out, Zt.out⟩
    · skip
      go_simp
      obtain ⟨V29, hW⟩ : ∃ V29, D13.alloc zbox = V29 := ⟨_, rfl⟩
      obtain ⟨kW, sz29⟩ := alloc1 D13 zbox
      rw [hW] at kW sz29
      replace sz29 : D13.heap.size < V29.heap.size := by omega
      replace Zm := hid (Zm.out.now kW)
      replace Zo := hid (Zo.out.now kW)
      replace Pm := hid (Pm.out.step kW)
      replace Po := hid (Po.out.step kW)
      replace G := hid (below_step G.out kW)
      replace GR := hid (below_step GR.out kW)
      have lz30 := (show Below _ _ _ from kW).size
      have PN9 : Hid (Duo V29 (D13.heap.size) (.bool false) (.slice none 0 0)) := by unfold Hid; rw [← hW]; exact duo_at rfl
      rw [hW]
      clear hW kW
      refine hK.out _ _ (fun _ _ => ⟨Pm.out.c0, Pm.out.c1⟩) ?_
      clear hK
      try simp only [Act.put]
      refine wpAnyX_two (i := 1) (j := 3) (oi := { dst := some 87, op := Op.call { callee := Callee.value (Operand.func 9), args := #[Operand.const (Value.int IntKind.i64 0)], argTypes := #[3] }, type := 24, pos := "outright.go:108", after := #[], guard := none }) (oj := { dst := some 10, op := Op.alloc 24, type := 0, pos := "outright.go:108", after := #[], guard := none }) (by kernel_rfl) rfl rfl (fun K hK => ?_) (fun K hK => ?_)
      · skip
        go_simp
        go_at_call 9
        refine (two_as (k := 0) (by decide) rfl _).mono ?_
        rintro e w31 ⟨r0, rfl, m0, b⟩
        obtain ⟨nt, xt, adt, qt, rfl, -, -, -⟩ := id m0
        replace Zm := hid (Zm.out.now b)
        replace Zo := hid (Zo.out.now b)
        replace Pm := hid (Pm.out.step b)
        replace Po := hid (Po.out.step b)
        replace PN9 := hid (PN9.out.step b)
        replace G := hid (below_step G.out b)
        replace GR := hid (below_step GR.out b)
        have lz32 := (show Below _ _ _ from b).size
        have Zt := hid m0
        clear b m0
        refine hK.out _ _ (fun _ _ => ⟨Pm.out.c0, Pm.out.c1⟩) ?_
        clear hK
        refine wpAnyX_one (i := 3) (o := { dst := some 10, op := Op.alloc 24, type := 0, pos := "outright.go:108", after := #[], guard := none }) (by kernel_rfl) rfl (fun K hK => ?_)
        go_simp
        obtain ⟨V33, hW⟩ : ∃ V33, w31.alloc zbox = V33 := ⟨_, rfl⟩
        obtain ⟨kW, sz33⟩ := alloc1 w31 zbox
        rw [hW] at kW sz33
        replace sz33 : w31.heap.size < V33.heap.size := by omega
        replace Zm := hid (Zm.out.now kW)
        replace Zo := hid (Zo.out.now kW)
        replace Zt := hid (Zt.out.now kW)
        replace Pm := hid (Pm.out.step kW)
        replace Po := hid (Po.out.step kW)
        replace PN9 := hid (PN9.out.step kW)
        replace G := hid (below_step G.out kW)
        replace GR := hid (below_step GR.out kW)
        have lz34 := (show Below _ _ _ from kW).size
        have PN10 : Hid (Duo V33 (w31.heap.size) (.bool false) (.slice none 0 0)) := by unfold Hid; rw [← hW]; exact duo_at rfl
        rw [hW]
        clear hW kW
        refine hK.out _ _ (fun _ _ => ⟨Pm.out.c0, Pm.out.c1⟩) ?_
        clear hK
        try simp only [Act.put]
        refine wpAnyX_one (i := 4) (o := { dst := none, op := Op.store 24 (Operand.tmp 9) (Operand.tmp 86), type := 0, pos := "outright.go:108", after := #[{ on := 2, ground := Ground.data }, { on := 0, ground := Ground.data }, { on := 1, ground := Ground.chain }, { on := 0, ground := Ground.phase }, { on := 1, ground := Ground.textOnly Departure.lateStoresUnsure }, { on := 2, ground := Ground.phase }, { on := 3, ground := Ground.phase }], guard := none }) (by kernel_rfl) rfl (fun K hK => ?_)
        have cN90 := PN9.out.c0
        have cN91 := PN9.out.c1
        have fN90 := PN9.out.fz 0
        have fN91 := PN9.out.fz 1
        go_simp
        clear cN90 cN91 fN90 fN91
        obtain ⟨V35, hW⟩ : ∃ V35, (V33.setCell ⟨D13.heap.size, 0, none⟩ (.bool nm)).setCell ⟨D13.heap.size, 1, none⟩ (.slice (some ⟨wg, wo, none⟩) 1 qm) = V35 := ⟨_, rfl⟩
        replace Zm := hid ((Zm.out).box (PN9.out) (.bool nm) (.slice (some ⟨wg, wo, none⟩) 1 qm))
        replace Zo := hid ((Zo.out).box (PN9.out) (.bool nm) (.slice (some ⟨wg, wo, none⟩) 1 qm))
        replace Zt := hid ((Zt.out).wk ((PN9.out).wk (.bool nm) (.slice (some ⟨wg, wo, none⟩) 1 qm)))
        replace Pm := hid ((Pm.out).box (b' := D13.heap.size) (by omega) (.bool nm) (.slice (some ⟨wg, wo, none⟩) 1 qm))
        replace Po := hid ((Po.out).box (b' := D13.heap.size) (by omega) (.bool nm) (.slice (some ⟨wg, wo, none⟩) 1 qm))
        replace PN9 := hid ((PN9.out).set (.bool nm) (.slice (some ⟨wg, wo, none⟩) 1 qm))
        replace PN10 := hid ((PN10.out).box (b' := D13.heap.size) (by omega) (.bool nm) (.slice (some ⟨wg, wo, none⟩) 1 qm))
        replace G : Hid (Below w.heap.size w (((V33.setCell ⟨D13.heap.size, 0, none⟩ (.bool nm)).setCell ⟨D13.heap.size, 1, none⟩ (.slice (some ⟨wg, wo, none⟩) 1 qm)))) := bset (bset (G.out) (by omega)) (by omega)
        replace GR : Hid (Below w11.heap.size w11 (((V33.setCell ⟨D13.heap.size, 0, none⟩ (.bool nm)).setCell ⟨D13.heap.size, 1, none⟩ (.slice (some ⟨wg, wo, none⟩) 1 qm)))) := bset (bset (GR.out) (by omega)) (by omega)
        have sz35 : V35.heap.size = V33.heap.size := by rw [← hW]; simp
        rw [hW] at Zm Zo Zt Pm Po PN9 PN10 G GR
        rw [hW]
        clear hW
        refine hK.out _ _ (fun _ _ => ⟨Pm.out.c0, Pm.out.c1⟩) ?_
        clear hK
        try simp only [Act.put]
        refine wpAnyX_one (i := 5) (o := { dst := none, op := Op.store 24 (Operand.tmp 10) (Operand.tmp 87), type := 0, pos := "outright.go:108", after := #[{ on := 3, ground := Ground.data }, { on := 1, ground := Ground.data }, { on := 4, ground := Ground.chain }, { on := 0, ground := Ground.phase }, { on := 1, ground := Ground.phase }, { on := 2, ground := Ground.phase }, { on := 3, ground := Ground.phase }, { on := 4, ground := Ground.phase }], guard := none }) (by kernel_rfl) rfl (fun K hK => ?_)
        have cN100 := PN10.out.c0
        have cN101 := PN10.out.c1
        have fN100 := PN10.out.fz 0
        have fN101 := PN10.out.fz 1
        go_simp
        clear cN100 cN101 fN100 fN101
        obtain ⟨V36, hW⟩ : ∃ V36, (V35.setCell ⟨w31.heap.size, 0, none⟩ (.bool nt)).setCell ⟨w31.heap.size, 1, none⟩ (.slice adt xt.length qt) = V36 := ⟨_, rfl⟩
        replace Zm := hid ((Zm.out).box (PN10.out) (.bool nt) (.slice adt xt.length qt))
        replace Zo := hid ((Zo.out).box (PN10.out) (.bool nt) (.slice adt xt.length qt))
        replace Zt := hid ((Zt.out).wk ((PN10.out).wk (.bool nt) (.slice adt xt.length qt)))
        replace Pm := hid ((Pm.out).box (b' := w31.heap.size) (by omega) (.bool nt) (.slice adt xt.length qt))
        replace Po := hid ((Po.out).box (b' := w31.heap.size) (by omega) (.bool nt) (.slice adt xt.length qt))
        replace PN9 := hid ((PN9.out).box (b' := w31.heap.size) (by omega) (.bool nt) (.slice adt xt.length qt))
        replace PN10 := hid ((PN10.out).set (.bool nt) (.slice adt xt.length qt))
        replace G : Hid (Below w.heap.size w (((V35.setCell ⟨w31.heap.size, 0, none⟩ (.bool nt)).setCell ⟨w31.heap.size, 1, none⟩ (.slice adt xt.length qt)))) := bset (bset (G.out) (by omega)) (by omega)
        replace GR : Hid (Below w11.heap.size w11 (((V35.setCell ⟨w31.heap.size, 0, none⟩ (.bool nt)).setCell ⟨w31.heap.size, 1, none⟩ (.slice adt xt.length qt)))) := bset (bset (GR.out) (by omega)) (by omega)
        have sz36 : V36.heap.size = V35.heap.size := by rw [← hW]; simp
        rw [hW] at Zm Zo Zt Pm Po PN9 PN10 G GR
        rw [hW]
        clear hW
        refine hK.out _ _ (fun _ _ => ⟨Pm.out.c0, Pm.out.c1⟩) ?_
        clear hK
        try simp only [Act.put]
        refine wpAnyX_done (by kernel_rfl) ?_ _
        go_wp2_with fail
        go_meet
        exact ⟨_, _, _, _, _, _, rfl, rfl, GR.out, by omega, by omega, PN9.out.blk, PN10.out.blk, by omega, PN9.out, PN10.out, Zt.out⟩
      · skip
        go_simp
        obtain ⟨V37, hW⟩ : ∃ V37, V29.alloc zbox = V37 := ⟨_, rfl⟩
        obtain ⟨kW, sz37⟩ := alloc1 V29 zbox
        rw [hW] at kW sz37
        replace sz37 : V29.heap.size < V37.heap.size := by omega
        replace Zm := hid (Zm.out.now kW)
        replace Zo := hid (Zo.out.now kW)
        replace Pm := hid (Pm.out.step kW)
        replace Po := hid (Po.out.step kW)
        replace PN9 := hid (PN9.out.step kW)
        replace G := hid (below_step G.out kW)
        replace GR := hid (below_step GR.out kW)
        have lz38 := (show Below _ _ _ from kW).size
        have PN10 : Hid (Duo V37 (V29.heap.size) (.bool false) (.slice none 0 0)) := by unfold Hid; rw [← hW]; exact duo_at rfl
        rw [hW]
        clear hW kW
        refine hK.out _ _ (fun _ _ => ⟨Pm.out.c0, Pm.out.c1⟩) ?_
        clear hK
        try simp only [Act.put]
        refine wpAnyX_one (i := 1) (o := { dst := some 87, op := Op.call { callee := Callee.value (Operand.func 9), args := #[Operand.const (Value.int IntKind.i64 0)], argTypes := #[3] }, type := 24, pos := "outright.go:108", after := #[], guard := none }) (by kernel_rfl) rfl (fun K hK => ?_)
        go_simp
        go_at_call 9
        refine (two_as (k := 0) (by decide) rfl _).mono ?_
        rintro e w39 ⟨r0, rfl, m0, b⟩
        obtain ⟨nt, xt, adt, qt, rfl, -, -, -⟩ := id m0
        replace Zm := hid (Zm.out.now b)
        replace Zo := hid (Zo.out.now b)
        replace Pm := hid (Pm.out.step b)
        replace Po := hid (Po.out.step b)
        replace PN9 := hid (PN9.out.step b)
        replace PN10 := hid (PN10.out.step b)
        replace G := hid (below_step G.out b)
        replace GR := hid (below_step GR.out b)
        have lz40 := (show Below _ _ _ from b).size
        have Zt := hid m0
        clear b m0
        refine hK.out _ _ (fun _ _ => ⟨Pm.out.c0, Pm.out.c1⟩) ?_
        clear hK
        refine wpAnyX_one (i := 4) (o := { dst := none, op := Op.store 24 (Operand.tmp 9) (Operand.tmp 86), type := 0, pos := "outright.go:108", after := #[{ on := 2, ground := Ground.data }, { on := 0, ground := Ground.data }, { on := 1, ground := Ground.chain }, { on := 0, ground := Ground.phase }, { on := 1, ground := Ground.textOnly Departure.lateStoresUnsure }, { on := 2, ground := Ground.phase }, { on := 3, ground := Ground.phase }], guard := none }) (by kernel_rfl) rfl (fun K hK => ?_)
        have cN90 := PN9.out.c0
        have cN91 := PN9.out.c1
        have fN90 := PN9.out.fz 0
        have fN91 := PN9.out.fz 1
        go_simp
        clear cN90 cN91 fN90 fN91
        obtain ⟨V41, hW⟩ : ∃ V41, (w39.setCell ⟨D13.heap.size, 0, none⟩ (.bool nm)).setCell ⟨D13.heap.size, 1, none⟩ (.slice (some ⟨wg, wo, none⟩) 1 qm) = V41 := ⟨_, rfl⟩
        replace Zm := hid ((Zm.out).box (PN9.out) (.bool nm) (.slice (some ⟨wg, wo, none⟩) 1 qm))
        replace Zo := hid ((Zo.out).box (PN9.out) (.bool nm) (.slice (some ⟨wg, wo, none⟩) 1 qm))
        replace Zt := hid ((Zt.out).wk ((PN9.out).wk (.bool nm) (.slice (some ⟨wg, wo, none⟩) 1 qm)))
        replace Pm := hid ((Pm.out).box (b' := D13.heap.size) (by omega) (.bool nm) (.slice (some ⟨wg, wo, none⟩) 1 qm))
        replace Po := hid ((Po.out).box (b' := D13.heap.size) (by omega) (.bool nm) (.slice (some ⟨wg, wo, none⟩) 1 qm))
        replace PN9 := hid ((PN9.out).set (.bool nm) (.slice (some ⟨wg, wo, none⟩) 1 qm))
        replace PN10 := hid ((PN10.out).box (b' := D13.heap.size) (by omega) (.bool nm) (.slice (some ⟨wg, wo, none⟩) 1 qm))
        replace G : Hid (Below w.heap.size w (((w39.setCell ⟨D13.heap.size, 0, none⟩ (.bool nm)).setCell ⟨D13.heap.size, 1, none⟩ (.slice (some ⟨wg, wo, none⟩) 1 qm)))) := bset (bset (G.out) (by omega)) (by omega)
        replace GR : Hid (Below w11.heap.size w11 (((w39.setCell ⟨D13.heap.size, 0, none⟩ (.bool nm)).setCell ⟨D13.heap.size, 1, none⟩ (.slice (some ⟨wg, wo, none⟩) 1 qm)))) := bset (bset (GR.out) (by omega)) (by omega)
        have sz41 : V41.heap.size = w39.heap.size := by rw [← hW]; simp
        rw [hW] at Zm Zo Zt Pm Po PN9 PN10 G GR
        rw [hW]
        clear hW
        refine hK.out _ _ (fun _ _ => ⟨Pm.out.c0, Pm.out.c1⟩) ?_
        clear hK
        try simp only [Act.put]
        refine wpAnyX_one (i := 5) (o := { dst := none, op := Op.store 24 (Operand.tmp 10) (Operand.tmp 87), type := 0, pos := "outright.go:108", after := #[{ on := 3, ground := Ground.data }, { on := 1, ground := Ground.data }, { on := 4, ground := Ground.chain }, { on := 0, ground := Ground.phase }, { on := 1, ground := Ground.phase }, { on := 2, ground := Ground.phase }, { on := 3, ground := Ground.phase }, { on := 4, ground := Ground.phase }], guard := none }) (by kernel_rfl) rfl (fun K hK => ?_)
        have cN100 := PN10.out.c0
        have cN101 := PN10.out.c1
        have fN100 := PN10.out.fz 0
        have fN101 := PN10.out.fz 1
        go_simp
        clear cN100 cN101 fN100 fN101
        obtain ⟨V42, hW⟩ : ∃ V42, (V41.setCell ⟨V29.heap.size, 0, none⟩ (.bool nt)).setCell ⟨V29.heap.size, 1, none⟩ (.slice adt xt.length qt) = V42 := ⟨_, rfl⟩
        replace Zm := hid ((Zm.out).box (PN10.out) (.bool nt) (.slice adt xt.length qt))
        replace Zo := hid ((Zo.out).box (PN10.out) (.bool nt) (.slice adt xt.length qt))
        replace Zt := hid ((Zt.out).wk ((PN10.out).wk (.bool nt) (.slice adt xt.length qt)))
        replace Pm := hid ((Pm.out).box (b' := V29.heap.size) (by omega) (.bool nt) (.slice adt xt.length qt))
        replace Po := hid ((Po.out).box (b' := V29.heap.size) (by omega) (.bool nt) (.slice adt xt.length qt))
        replace PN9 := hid ((PN9.out).box (b' := V29.heap.size) (by omega) (.bool nt) (.slice adt xt.length qt))
        replace PN10 := hid ((PN10.out).set (.bool nt) (.slice adt xt.length qt))
        replace G : Hid (Below w.heap.size w (((V41.setCell ⟨V29.heap.size, 0, none⟩ (.bool nt)).setCell ⟨V29.heap.size, 1, none⟩ (.slice adt xt.length qt)))) := bset (bset (G.out) (by omega)) (by omega)
        replace GR : Hid (Below w11.heap.size w11 (((V41.setCell ⟨V29.heap.size, 0, none⟩ (.bool nt)).setCell ⟨V29.heap.size, 1, none⟩ (.slice adt xt.length qt)))) := bset (bset (GR.out) (by omega)) (by omega)
        have sz42 : V42.heap.size = V41.heap.size := by rw [← hW]; simp
        rw [hW] at Zm Zo Zt Pm Po PN9 PN10 G GR
        rw [hW]
        clear hW
        refine hK.out _ _ (fun _ _ => ⟨Pm.out.c0, Pm.out.c1⟩) ?_
        clear hK
        try simp only [Act.put]
        refine wpAnyX_done (by kernel_rfl) ?_ _
        go_wp2_with fail
        go_meet
        exact ⟨_, _, _, _, _, _, rfl, rfl, GR.out, by omega, by omega, PN9.out.blk, PN10.out.blk, by omega, PN9.out, PN10.out, Zt.out⟩
    · skip
      go_simp
      obtain ⟨V43, hW⟩ : ∃ V43, D13.alloc zbox = V43 := ⟨_, rfl⟩
      obtain ⟨kW, sz43⟩ := alloc1 D13 zbox
      rw [hW] at kW sz43
      replace sz43 : D13.heap.size < V43.heap.size := by omega
      replace Zm := hid (Zm.out.now kW)
      replace Zo := hid (Zo.out.now kW)
      replace Pm := hid (Pm.out.step kW)
      replace Po := hid (Po.out.step kW)
      replace G := hid (below_step G.out kW)
      replace GR := hid (below_step GR.out kW)
      have lz44 := (show Below _ _ _ from kW).size
      have PN10 : Hid (Duo V43 (D13.heap.size) (.bool false) (.slice none 0 0)) := by unfold Hid; rw [← hW]; exact duo_at rfl
      rw [hW]
      clear hW kW
      refine hK.out _ _ (fun _ _ => ⟨Pm.out.c0, Pm.out.c1⟩) ?_
      clear hK
      try simp only [Act.put]
      refine wpAnyX_two (i := 1) (j := 2) (oi := { dst := some 87, op := Op.call { callee := Callee.value (Operand.func 9), args := #[Operand.const (Value.int IntKind.i64 0)], argTypes := #[3] }, type := 24, pos := "outright.go:108", after := #[], guard := none }) (oj := { dst := some 9, op := Op.alloc 24, type := 0, pos := "outright.go:108", after := #[], guard := none }) (by kernel_rfl) rfl rfl (fun K hK => ?_) (fun K hK => ?_)
      · skip
        go_simp
        go_at_call 9
        refine (two_as (k := 0) (by decide) rfl _).mono ?_
        rintro e w45 ⟨r0, rfl, m0, b⟩
        obtain ⟨nt, xt, adt, qt, rfl, -, -, -⟩ := id m0
        replace Zm := hid (Zm.out.now b)
        replace Zo := hid (Zo.out.now b)
        replace Pm := hid (Pm.out.step b)
        replace Po := hid (Po.out.step b)
        replace PN10 := hid (PN10.out.step b)
        replace G := hid (below_step G.out b)
        replace GR := hid (below_step GR.out b)
        have lz46 := (show Below _ _ _ from b).size
        have Zt := hid m0
        clear b m0
        refine hK.out _ _ (fun _ _ => ⟨Pm.out.c0, Pm.out.c1⟩) ?_
        clear hK
        refine wpAnyX_one (i := 2) (o := { dst := some 9, op := Op.alloc 24, type := 0, pos := "outright.go:108", after := #[], guard := none }) (by kernel_rfl) rfl (fun K hK => ?_)
        go_simp
        obtain ⟨V47, hW⟩ : ∃ V47, w45.alloc zbox = V47 := ⟨_, rfl⟩
        obtain ⟨kW, sz47⟩ := alloc1 w45 zbox
        rw [hW] at kW sz47
        replace sz47 : w45.heap.size < V47.heap.size := by omega
        replace Zm := hid (Zm.out.now kW)
        replace Zo := hid (Zo.out.now kW)
        replace Zt := hid (Zt.out.now kW)
        replace Pm := hid (Pm.out.step kW)
        replace Po := hid (Po.out.step kW)
        replace PN10 := hid (PN10.out.step kW)
        replace G := hid (below_step G.out kW)
        replace GR := hid (below_step GR.out kW)
        have lz48 := (show Below _ _ _ from kW).size
        have PN9 : Hid (Duo V47 (w45.heap.size) (.bool false) (.slice none 0 0)) := by unfold Hid; rw [← hW]; exact duo_at rfl
        rw [hW]
        clear hW kW
        refine hK.out _ _ (fun _ _ => ⟨Pm.out.c0, Pm.out.c1⟩) ?_
        clear hK
        try simp only [Act.put]
        refine wpAnyX_one (i := 4) (o := { dst := none, op := Op.store 24 (Operand.tmp 9) (Operand.tmp 86), type := 0, pos := "outright.go:108", after := #[{ on := 2, ground := Ground.data }, { on := 0, ground := Ground.data }, { on := 1, ground := Ground.chain }, { on := 0, ground := Ground.phase }, { on := 1, ground := Ground.textOnly Departure.lateStoresUnsure }, { on := 2, ground := Ground.phase }, { on := 3, ground := Ground.phase }], guard := none }) (by kernel_rfl) rfl (fun K hK => ?_)
        have cN90 := PN9.out.c0
        have cN91 := PN9.out.c1
        have fN90 := PN9.out.fz 0
        have fN91 := PN9.out.fz 1
        go_simp
        clear cN90 cN91 fN90 fN91
        obtain ⟨V49, hW⟩ : ∃ V49, (V47.setCell ⟨w45.heap.size, 0, none⟩ (.bool nm)).setCell ⟨w45.heap.size, 1, none⟩ (.slice (some ⟨wg, wo, none⟩) 1 qm) = V49 := ⟨_, rfl⟩
        replace Zm := hid ((Zm.out).box (PN9.out) (.bool nm) (.slice (some ⟨wg, wo, none⟩) 1 qm))
        replace Zo := hid ((Zo.out).box (PN9.out) (.bool nm) (.slice (some ⟨wg, wo, none⟩) 1 qm))
        replace Zt := hid ((Zt.out).wk ((PN9.out).wk (.bool nm) (.slice (some ⟨wg, wo, none⟩) 1 qm)))
        replace Pm := hid ((Pm.out).box (b' := w45.heap.size) (by omega) (.bool nm) (.slice (some ⟨wg, wo, none⟩) 1 qm))
        replace Po := hid ((Po.out).box (b' := w45.heap.size) (by omega) (.bool nm) (.slice (some ⟨wg, wo, none⟩) 1 qm))
        replace PN10 := hid ((PN10.out).box (b' := w45.heap.size) (by omega) (.bool nm) (.slice (some ⟨wg, wo, none⟩) 1 qm))
        replace PN9 := hid ((PN9.out).set (.bool nm) (.slice (some ⟨wg, wo, none⟩) 1 qm))
        replace G : Hid (Below w.heap.size w (((V47.setCell ⟨w45.heap.size, 0, none⟩ (.bool nm)).setCell ⟨w45.heap.size, 1, none⟩ (.slice (some ⟨wg, wo, none⟩) 1 qm)))) := bset (bset (G.out) (by omega)) (by omega)
        replace GR : Hid (Below w11.heap.size w11 (((V47.setCell ⟨w45.heap.size, 0, none⟩ (.bool nm)).setCell ⟨w45.heap.size, 1, none⟩ (.slice (some ⟨wg, wo, none⟩) 1 qm)))) := bset (bset (GR.out) (by omega)) (by omega)
        have sz49 : V49.heap.size = V47.heap.size := by rw [← hW]; simp
        rw [hW] at Zm Zo Zt Pm Po PN10 PN9 G GR
        rw [hW]
        clear hW
        refine hK.out _ _ (fun _ _ => ⟨Pm.out.c0, Pm.out.c1⟩) ?_
        clear hK
        try simp only [Act.put]
        refine wpAnyX_one (i := 5) (o := { dst := none, op := Op.store 24 (Operand.tmp 10) (Operand.tmp 87), type := 0, pos := "outright.go:108", after := #[{ on := 3, ground := Ground.data }, { on := 1, ground := Ground.data }, { on := 4, ground := Ground.chain }, { on := 0, ground := Ground.phase }, { on := 1, ground := Ground.phase }, { on := 2, ground := Ground.phase }, { on := 3, ground := Ground.phase }, { on := 4, ground := Ground.phase }], guard := none }) (by kernel_rfl) rfl (fun K hK => ?_)
        have cN100 := PN10.out.c0
        have cN101 := PN10.out.c1
        have fN100 := PN10.out.fz 0
        have fN101 := PN10.out.fz 1
        go_simp
        clear cN100 cN101 fN100 fN101
        obtain ⟨V50, hW⟩ : ∃ V50, (V49.setCell ⟨D13.heap.size, 0, none⟩ (.bool nt)).setCell ⟨D13.heap.size, 1, none⟩ (.slice adt xt.length qt) = V50 := ⟨_, rfl⟩
        replace Zm := hid ((Zm.out).box (PN10.out) (.bool nt) (.slice adt xt.length qt))
        replace Zo := hid ((Zo.out).box (PN10.out) (.bool nt) (.slice adt xt.length qt))
        replace Zt := hid ((Zt.out).wk ((PN10.out).wk (.bool nt) (.slice adt xt.length qt)))
        replace Pm := hid ((Pm.out).box (b' := D13.heap.size) (by omega) (.bool nt) (.slice adt xt.length qt))
        replace Po := hid ((Po.out).box (b' := D13.heap.size) (by omega) (.bool nt) (.slice adt xt.length qt))
        replace PN10 := hid ((PN10.out).set (.bool nt) (.slice adt xt.length qt))
        replace PN9 := hid ((PN9.out).box (b' := D13.heap.size) (by omega) (.bool nt) (.slice adt xt.length qt))
        replace G : Hid (Below w.heap.size w (((V49.setCell ⟨D13.heap.size, 0, none⟩ (.bool nt)).setCell ⟨D13.heap.size, 1, none⟩ (.slice adt xt.length qt)))) := bset (bset (G.out) (by omega)) (by omega)
        replace GR : Hid (Below w11.heap.size w11 (((V49.setCell ⟨D13.heap.size, 0, none⟩ (.bool nt)).setCell ⟨D13.heap.size, 1, none⟩ (.slice adt xt.length qt)))) := bset (bset (GR.out) (by omega)) (by omega)
        have sz50 : V50.heap.size = V49.heap.size := by rw [← hW]; simp
        rw [hW] at Zm Zo Zt Pm Po PN10 PN9 G GR
        rw [hW]
        clear hW
        refine hK.out _ _ (fun _ _ => ⟨Pm.out.c0, Pm.out.c1⟩) ?_
        clear hK
        try simp only [Act.put]
        refine wpAnyX_done (by kernel_rfl) ?_ _
        go_wp2_with fail
        go_meet
        exact ⟨_, _, _, _, _, _, rfl, rfl, GR.out, by omega, by omega, PN9.out.blk, PN10.out.blk, by omega, PN9.out, PN10.out, Zt.out⟩
      · skip
        go_simp
        obtain ⟨V51, hW⟩ : ∃ V51, V43.alloc zbox = V51 := ⟨_, rfl⟩
        obtain ⟨kW, sz51⟩ := alloc1 V43 zbox
        rw [hW] at kW sz51
        replace sz51 : V43.heap.size < V51.heap.size := by omega
        replace Zm := hid (Zm.out.now kW)
        replace Zo := hid (Zo.out.now kW)
        replace Pm := hid (Pm.out.step kW)
        replace Po := hid (Po.out.step kW)
        replace PN10 := hid (PN10.out.step kW)
        replace G := hid (below_step G.out kW)
        replace GR := hid (below_step GR.out kW)
        have lz52 := (show Below _ _ _ from kW).size
        have PN9 : Hid (Duo V51 (V43.heap.size) (.bool false) (.slice none 0 0)) := by unfold Hid; rw [← hW]; exact duo_at rfl
        rw [hW]
        clear hW kW
        refine hK.out _ _ (fun _ _ => ⟨Pm.out.c0, Pm.out.c1⟩) ?_
        clear hK
        try simp only [Act.put]
        refine wpAnyX_one (i := 1) (o := { dst := some 87, op := Op.call { callee := Callee.value (Operand.func 9), args := #[Operand.const (Value.int IntKind.i64 0)], argTypes := #[3] }, type := 24, pos := "outright.go:108", after := #[], guard := none }) (by kernel_rfl) rfl (fun K hK => ?_)
        go_simp
        go_at_call 9
        refine (two_as (k := 0) (by decide) rfl _).mono ?_
        rintro e w53 ⟨r0, rfl, m0, b⟩
        obtain ⟨nt, xt, adt, qt, rfl, -, -, -⟩ := id m0
        replace Zm := hid (Zm.out.now b)
        replace Zo := hid (Zo.out.now b)
        replace Pm := hid (Pm.out.step b)
        replace Po := hid (Po.out.step b)
        replace PN10 := hid (PN10.out.step b)
        replace PN9 := hid (PN9.out.step b)
        replace G := hid (below_step G.out b)
        replace GR := hid (below_step GR.out b)
        have lz54 := (show Below _ _ _ from b).size
        have Zt := hid m0
        clear b m0
        refine hK.out _ _ (fun _ _ => ⟨Pm.out.c0, Pm.out.c1⟩) ?_
        clear hK
        refine wpAnyX_one (i := 4) (o := { dst := none, op := Op.store 24 (Operand.tmp 9) (Operand.tmp 86), type := 0, pos := "outright.go:108", after := #[{ on := 2, ground := Ground.data }, { on := 0, ground := Ground.data }, { on := 1, ground := Ground.chain }, { on := 0, ground := Ground.phase }, { on := 1, ground := Ground.textOnly Departure.lateStoresUnsure }, { on := 2, ground := Ground.phase }, { on := 3, ground := Ground.phase }], guard := none }) (by kernel_rfl) rfl (fun K hK => ?_)
        have cN90 := PN9.out.c0
        have cN91 := PN9.out.c1
        have fN90 := PN9.out.fz 0
        have fN91 := PN9.out.fz 1
        go_simp
        clear cN90 cN91 fN90 fN91
        obtain ⟨V55, hW⟩ : ∃ V55, (w53.setCell ⟨V43.heap.size, 0, none⟩ (.bool nm)).setCell ⟨V43.heap.size, 1, none⟩ (.slice (some ⟨wg, wo, none⟩) 1 qm) = V55 := ⟨_, rfl⟩
        replace Zm := hid ((Zm.out).box (PN9.out) (.bool nm) (.slice (some ⟨wg, wo, none⟩) 1 qm))
        replace Zo := hid ((Zo.out).box (PN9.out) (.bool nm) (.slice (some ⟨wg, wo, none⟩) 1 qm))
        replace Zt := hid ((Zt.out).wk ((PN9.out).wk (.bool nm) (.slice (some ⟨wg, wo, none⟩) 1 qm)))
        replace Pm := hid ((Pm.out).box (b' := V43.heap.size) (by omega) (.bool nm) (.slice (some ⟨wg, wo, none⟩) 1 qm))
        replace Po := hid ((Po.out).box (b' := V43.heap.size) (by omega) (.bool nm) (.slice (some ⟨wg, wo, none⟩) 1 qm))
        replace PN10 := hid ((PN10.out).box (b' := V43.heap.size) (by omega) (.bool nm) (.slice (some ⟨wg, wo, none⟩) 1 qm))
        replace PN9 := hid ((PN9.out).set (.bool nm) (.slice (some ⟨wg, wo, none⟩) 1 qm))
        replace G : Hid (Below w.heap.size w (((w53.setCell ⟨V43.heap.size, 0, none⟩ (.bool nm)).setCell ⟨V43.heap.size, 1, none⟩ (.slice (some ⟨wg, wo, none⟩) 1 qm)))) := bset (bset (G.out) (by omega)) (by omega)
        replace GR : Hid (Below w11.heap.size w11 (((w53.setCell ⟨V43.heap.size, 0, none⟩ (.bool nm)).setCell ⟨V43.heap.size, 1, none⟩ (.slice (some ⟨wg, wo, none⟩) 1 qm)))) := bset (bset (GR.out) (by omega)) (by omega)
        have sz55 : V55.heap.size = w53.heap.size := by rw [← hW]; simp
        rw [hW] at Zm Zo Zt Pm Po PN10 PN9 G GR
        rw [hW]
        clear hW
        refine hK.out _ _ (fun _ _ => ⟨Pm.out.c0, Pm.out.c1⟩) ?_
        clear hK
        try simp only [Act.put]
        refine wpAnyX_one (i := 5) (o := { dst := none, op := Op.store 24 (Operand.tmp 10) (Operand.tmp 87), type := 0, pos := "outright.go:108", after := #[{ on := 3, ground := Ground.data }, { on := 1, ground := Ground.data }, { on := 4, ground := Ground.chain }, { on := 0, ground := Ground.phase }, { on := 1, ground := Ground.phase }, { on := 2, ground := Ground.phase }, { on := 3, ground := Ground.phase }, { on := 4, ground := Ground.phase }], guard := none }) (by kernel_rfl) rfl (fun K hK => ?_)
        have cN100 := PN10.out.c0
        have cN101 := PN10.out.c1
        have fN100 := PN10.out.fz 0
        have fN101 := PN10.out.fz 1
        go_simp
        clear cN100 cN101 fN100 fN101
        obtain ⟨V56, hW⟩ : ∃ V56, (V55.setCell ⟨D13.heap.size, 0, none⟩ (.bool nt)).setCell ⟨D13.heap.size, 1, none⟩ (.slice adt xt.length qt) = V56 := ⟨_, rfl⟩
        replace Zm := hid ((Zm.out).box (PN10.out) (.bool nt) (.slice adt xt.length qt))
        replace Zo := hid ((Zo.out).box (PN10.out) (.bool nt) (.slice adt xt.length qt))
        replace Zt := hid ((Zt.out).wk ((PN10.out).wk (.bool nt) (.slice adt xt.length qt)))
        replace Pm := hid ((Pm.out).box (b' := D13.heap.size) (by omega) (.bool nt) (.slice adt xt.length qt))
        replace Po := hid ((Po.out).box (b' := D13.heap.size) (by omega) (.bool nt) (.slice adt xt.length qt))
        replace PN10 := hid ((PN10.out).set (.bool nt) (.slice adt xt.length qt))
        replace PN9 := hid ((PN9.out).box (b' := D13.heap.size) (by omega) (.bool nt) (.slice adt xt.length qt))
        replace G : Hid (Below w.heap.size w (((V55.setCell ⟨D13.heap.size, 0, none⟩ (.bool nt)).setCell ⟨D13.heap.size, 1, none⟩ (.slice adt xt.length qt)))) := bset (bset (G.out) (by omega)) (by omega)
        replace GR : Hid (Below w11.heap.size w11 (((V55.setCell ⟨D13.heap.size, 0, none⟩ (.bool nt)).setCell ⟨D13.heap.size, 1, none⟩ (.slice adt xt.length qt)))) := bset (bset (GR.out) (by omega)) (by omega)
        have sz56 : V56.heap.size = V55.heap.size := by rw [← hW]; simp
        rw [hW] at Zm Zo Zt Pm Po PN10 PN9 G GR
        rw [hW]
        clear hW
        refine hK.out _ _ (fun _ _ => ⟨Pm.out.c0, Pm.out.c1⟩) ?_
        clear hK
        try simp only [Act.put]
        refine wpAnyX_done (by kernel_rfl) ?_ _
        go_wp2_with fail
        go_meet
        exact ⟨_, _, _, _, _, _, rfl, rfl, GR.out, by omega, by omega, PN9.out.blk, PN10.out.blk, by omega, PN9.out, PN10.out, Zt.out⟩
  case rest =>
    obtain ⟨b9, b10, nd, xd, add, qd, rfl, rfl, b, g9, g10, l9, l10, ne, p9, p10, zd⟩ := hcut
    replace Zm := hid (Zm.out.now b)
    replace Zo := hid (Zo.out.now b)
    replace Pm := hid (Pm.out.step b)
    replace Po := hid (Po.out.step b)
    replace G := hid (below_step G.out b)
    have lz57 := (show Below _ _ _ from b).size
    have PX := hid p9
    have PY := hid p10
    have Zd := hid zd
    clear b p9 p10 zd
    have bm_ := Pm.out.blk
    have bo_ := Po.out.blk
    have bG_ := G.out.size
    have dp : decide (0 ≤ (k : Int)) = true := decide_eq_true (by omega)
    have dl : decide ((k : Int) < 0) = false := decide_eq_false (by omega)
    go_wp2_with fail
    refine wp_region_X (fun w' => w'.cell? ⟨w3.heap.size, 0, none⟩ = some (.bool nm) ∧ w'.cell? ⟨w3.heap.size, 1, none⟩ = some (.slice (some ⟨wg, wo, none⟩) 1 qm)) [] (by kernel_rfl) ?_
    obtain ⟨D58, hD⟩ : ∃ D58, wc.drew = D58 := ⟨_, rfl⟩
    have b : Below wc.heap.size wc D58 := by rw [← hD]; exact (Below.refl _ _).drew
    rw [hD]
    clear hD
    replace Zm := hid (Zm.out.now b)
    replace Zo := hid (Zo.out.now b)
    replace Zd := hid (Zd.out.now b)
    replace Pm := hid (Pm.out.step b)
    replace Po := hid (Po.out.step b)
    replace PX := hid (PX.out.step b)
    replace PY := hid (PY.out.step b)
    replace G := hid (below_step G.out b)
    have lz59 := (show Below _ _ _ from b).size
    clear b
    refine wpAnyX_take (i := 0) (oi := { dst := some 90, op := Op.load 24 (Operand.tmp 4), type := 24, pos := "outright.go:110", after := #[], guard := none }) (v := (.agg #[(.bool nm), (.slice (some ⟨wg, wo, none⟩) 1 qm)])) rfl (by kernel_rfl) (fun _ _ _ h => h) (Or.inl ⟨by rfl, ?_⟩) ⟨Pm.out.c0, Pm.out.c1⟩ ?_
    · intro w hSw
      (try dsimp only at hSw)
      go_simp
    simp only [Act.put, List.setIfInBounds_toArray, List.set_cons_zero, List.set_cons_succ]
    refine wpAnyX_pure (i := 1) (oi := { dst := some 91, op := Op.move (Operand.tmp 5), type := 3, pos := "outright.go:110", after := #[], guard := none }) (v := (.int .i64 (k : Int))) rfl (by kernel_rfl) (fun _ _ _ h => h) (Or.inl ⟨by rfl, ?_⟩)  ?_
    · intro w hSw
      (try dsimp only at hSw)
      go_simp
    simp only [Act.put, List.setIfInBounds_toArray, List.set_cons_zero, List.set_cons_succ]
    refine wpAnyX_one (i := 2) (o := { dst := some 92, op := Op.call { callee := Callee.value (Operand.func 9), args := #[Operand.tmp 91], argTypes := #[3] }, type := 24, pos := "outright.go:110", after := #[{ on := 1, ground := Ground.data }], guard := none }) (by kernel_rfl) rfl (fun K hK => ?_)
    go_simp
    go_at_call 9
    refine (two_z (k := k) (by omega) _).mono ?_
    rintro e w60 ⟨r0, rfl, m0, b⟩
    obtain ⟨nt, xt, adt, qt, rfl, -, -, -⟩ := id m0
    replace Zm := hid (Zm.out.now b)
    replace Zo := hid (Zo.out.now b)
    replace Zd := hid (Zd.out.now b)
    replace Pm := hid (Pm.out.step b)
    replace Po := hid (Po.out.step b)
    replace PX := hid (PX.out.step b)
    replace PY := hid (PY.out.step b)
    replace G := hid (below_step G.out b)
    have lz61 := (show Below _ _ _ from b).size
    have Zt := hid m0
    clear b m0
    refine hK.out _ _ (fun _ _ => ⟨Pm.out.c0, Pm.out.c1⟩) ?_
    clear hK
    refine wpAnyX_one (i := 3) (o := { dst := some 93, op := Op.call { callee := Callee.value (Operand.func 21), args := #[Operand.tmp 90, Operand.tmp 92], argTypes := #[24, 24] }, type := 24, pos := "outright.go:110", after := #[{ on := 0, ground := Ground.data }, { on := 2, ground := Ground.data }, { on := 2, ground := Ground.chain }], guard := none }) (by kernel_rfl) rfl (fun K hK => ?_)
    go_simp
    go_at_call 21
    refine (mul_z Zm.out.zi Zt.out (by decide)).mono ?_
    rintro e w62 ⟨r0, rfl, m0, b⟩
    obtain ⟨nu, xu, adu, qu, rfl, -, -, -, -, -⟩ := id m0
    replace Zm := hid (Zm.out.now b)
    replace Zo := hid (Zo.out.now b)
    replace Zd := hid (Zd.out.now b)
    replace Zt := hid (Zt.out.now b)
    replace Pm := hid (Pm.out.step b)
    replace Po := hid (Po.out.step b)
    replace PX := hid (PX.out.step b)
    replace PY := hid (PY.out.step b)
    replace G := hid (below_step G.out b)
    have lz63 := (show Below _ _ _ from b).size
    have Zu := hid m0
    clear b m0
    refine hK.out _ _ (fun _ _ => ⟨Pm.out.c0, Pm.out.c1⟩) ?_
    clear hK
    refine wpAnyX_one (i := 4) (o := { dst := none, op := Op.store 24 (Operand.tmp 9) (Operand.tmp 93), type := 0, pos := "outright.go:110", after := #[{ on := 3, ground := Ground.data }, { on := 3, ground := Ground.chain }, { on := 0, ground := Ground.phase }, { on := 1, ground := Ground.phase }, { on := 2, ground := Ground.phase }, { on := 3, ground := Ground.phase }], guard := none }) (by kernel_rfl) rfl (fun K hK => ?_)
    have cX0 := PX.out.c0
    have cX1 := PX.out.c1
    have fX0 := PX.out.fz 0
    have fX1 := PX.out.fz 1
    go_simp
    clear cX0 cX1 fX0 fX1
    obtain ⟨V64, hW⟩ : ∃ V64, (w62.setCell ⟨b9, 0, none⟩ (.bool nu)).setCell ⟨b9, 1, none⟩ (.slice adu xu.length qu) = V64 := ⟨_, rfl⟩
    replace Zm := hid ((Zm.out).box (PX.out) (.bool nu) (.slice adu xu.length qu))
    replace Zo := hid ((Zo.out).box (PX.out) (.bool nu) (.slice adu xu.length qu))
    replace Zd := hid ((Zd.out).wk ((PX.out).wk (.bool nu) (.slice adu xu.length qu)))
    replace Zt := hid ((Zt.out).wk ((PX.out).wk (.bool nu) (.slice adu xu.length qu)))
    replace Zu := hid ((Zu.out).box (PX.out) (.bool nu) (.slice adu xu.length qu))
    replace Pm := hid ((Pm.out).box (b' := b9) (by omega) (.bool nu) (.slice adu xu.length qu))
    replace Po := hid ((Po.out).box (b' := b9) (by omega) (.bool nu) (.slice adu xu.length qu))
    replace PX := hid ((PX.out).set (.bool nu) (.slice adu xu.length qu))
    replace PY := hid ((PY.out).box (b' := b9) (by omega) (.bool nu) (.slice adu xu.length qu))
    replace G : Hid (Below w.heap.size w (((w62.setCell ⟨b9, 0, none⟩ (.bool nu)).setCell ⟨b9, 1, none⟩ (.slice adu xu.length qu)))) := bset (bset (G.out) (by omega)) (by omega)
    have sz64 : V64.heap.size = w62.heap.size := by rw [← hW]; simp
    rw [hW] at Zm Zo Zd Zt Zu Pm Po PX PY G
    rw [hW]
    clear hW
    refine hK.out _ _ (fun _ _ => ⟨Pm.out.c0, Pm.out.c1⟩) ?_
    clear hK
    try simp only [Act.put]
    refine wpAnyX_done (by kernel_rfl) ?_ _
    clear Zt
    have cX0 := PX.out.c0
    have cX1 := PX.out.c1
    have cY0 := PY.out.c0
    have cY1 := PY.out.c1
    go_wp2_with fail
    clear cX0 cX1 cY0 cY1
    refine (ratio_as Zu.out.zi Zd.out (pow_ne _) (HT0.out.now G.out) (by decide) (by decide) HB1.out).mono ?_
    rintro e w65 ⟨rfl, b⟩
    replace Zm := hid (Zm.out.now b)
    replace Zo := hid (Zo.out.now b)
    replace Zd := hid (Zd.out.now b)
    replace Zu := hid (Zu.out.now b)
    replace Pm := hid (Pm.out.step b)
    replace Po := hid (Po.out.step b)
    replace PX := hid (PX.out.step b)
    replace PY := hid (PY.out.step b)
    replace G := hid (below_step G.out b)
    have lz66 := (show Below _ _ _ from b).size
    clear b 
    have qf : ((F : Int) != (F : Int)) = false := by simp
    go_wp2_with fail
    refine (bits_some HF0.out _).mono ?_
    rintro e w67 ⟨rfl, b⟩
    replace Zm := hid (Zm.out.now b)
    replace Zo := hid (Zo.out.now b)
    replace Zd := hid (Zd.out.now b)
    replace Zu := hid (Zu.out.now b)
    replace Pm := hid (Pm.out.step b)
    replace Po := hid (Po.out.step b)
    replace PX := hid (PX.out.step b)
    replace PY := hid (PY.out.step b)
    replace G := hid (below_step G.out b)
    have lz68 := (show Below _ _ _ from b).size
    clear b 
    have cX0 := PX.out.c0
    have cX1 := PX.out.c1
    have cY0 := PY.out.c0
    have cY1 := PY.out.c1
    go_wp2_with fail
    clear cX0 cX1 cY0 cY1
    refine (trunc_z Zu.out.zi Zd.out (pow_ne _) (by decide) (by decide)).mono ?_
    rintro e w69 ⟨r0, r1, rfl, m0, m1, b⟩
    obtain ⟨nq, xq, adq, qq, rfl, -, -, -, -, -⟩ := id m0
    obtain ⟨nr, xr, adr, qr, rfl, -, -, -, -, -⟩ := id m1
    replace Zm := hid (Zm.out.now b)
    replace Zo := hid (Zo.out.now b)
    replace Zd := hid (Zd.out.now b)
    replace Zu := hid (Zu.out.now b)
    replace Pm := hid (Pm.out.step b)
    replace Po := hid (Po.out.step b)
    replace PX := hid (PX.out.step b)
    replace PY := hid (PY.out.step b)
    replace G := hid (below_step G.out b)
    have lz70 := (show Below _ _ _ from b).size
    have Zq := hid m0
    have Zr := hid m1
    clear b m0 m1
    obtain ⟨V71, hW⟩ : ∃ V71, (w69.alloc (duo (.bool nq) (.slice adq xq.length qq))).alloc (duo (.bool nr) (.slice adr xr.length qr)) = V71 := ⟨_, rfl⟩
    obtain ⟨kW, sz71⟩ := alloc2 w69 (duo (.bool nq) (.slice adq xq.length qq)) (duo (.bool nr) (.slice adr xr.length qr))
    rw [hW] at kW sz71
    replace Zm := hid (Zm.out.now kW)
    replace Zo := hid (Zo.out.now kW)
    replace Zd := hid (Zd.out.now kW)
    replace Zu := hid (Zu.out.now kW)
    replace Zq := hid (Zq.out.now kW)
    replace Zr := hid (Zr.out.now kW)
    replace Pm := hid (Pm.out.step kW)
    replace Po := hid (Po.out.step kW)
    replace PX := hid (PX.out.step kW)
    replace PY := hid (PY.out.step kW)
    replace G := hid (below_step G.out kW)
    have lz72 := (show Below _ _ _ from kW).size
    have Pq : Hid (Duo V71 (w69.heap.size) (.bool nq) (.slice adq xq.length qq)) := by unfold Hid; rw [← hW]; exact duo_late (duo_at (by simp)) _
    have Pr : Hid (Duo V71 (w69.heap.size + 1) (.bool nr) (.slice adr xr.length qr)) := by unfold Hid; rw [← hW]; exact duo_at (by simp)
    clear kW
    have cq0 := Pq.out.c0
    have cq1 := Pq.out.c1
    have co0 := Po.out.c0
    have co1 := Po.out.c1
    rw [← hW] at cq0 cq1 co0 co1
    have EW := hid hW
    clear hW
    go_wp2_with fail
    rw [EW.out]
    clear EW
    clear cq0 cq1 co0 co1
    refine (cmp_same Zq.out.zi Zo.out.zi HB3.out).mono ?_
    rintro e w73 ⟨rfl, b⟩
    replace Zm := hid (Zm.out.now b)
    replace Zo := hid (Zo.out.now b)
    replace Zd := hid (Zd.out.now b)
    replace Zu := hid (Zu.out.now b)
    replace Zq := hid (Zq.out.now b)
    replace Zr := hid (Zr.out.now b)
    replace Pm := hid (Pm.out.step b)
    replace Po := hid (Po.out.step b)
    replace PX := hid (PX.out.step b)
    replace PY := hid (PY.out.step b)
    replace Pq := hid (Pq.out.step b)
    replace Pr := hid (Pr.out.step b)
    replace G := hid (below_step G.out b)
    have lz74 := (show Below _ _ _ from b).size
    clear b 
    have co0 := Po.out.c0
    have co1 := Po.out.c1
    go_wp2_with fail
    clear co0 co1
    refine (acmp_as Zo.out.zi HF.out HF1.out HB4.out).mono ?_
    rintro e w75 ⟨rfl, b⟩
    replace Zm := hid (Zm.out.now b)
    replace Zo := hid (Zo.out.now b)
    replace Zd := hid (Zd.out.now b)
    replace Zu := hid (Zu.out.now b)
    replace Zq := hid (Zq.out.now b)
    replace Zr := hid (Zr.out.now b)
    replace Pm := hid (Pm.out.step b)
    replace Po := hid (Po.out.step b)
    replace PX := hid (PX.out.step b)
    replace PY := hid (PY.out.step b)
    replace Pq := hid (Pq.out.step b)
    replace Pr := hid (Pr.out.step b)
    replace G := hid (below_step G.out b)
    have lz76 := (show Below _ _ _ from b).size
    clear b 
    have qz : ((0 : Int) == 0) = true := rfl
    have qff : ((F : Int) == (F : Int)) = true := by simp
    have co0 := Po.out.c0
    have co1 := Po.out.c1
    go_wp2_with fail
    clear co0 co1
    refine (near_as Zo.out.zi (HT0.out.now G.out) (by decide) HB5.out).mono ?_
    rintro e w77 ⟨rfl, b⟩
    replace Zm := hid (Zm.out.now b)
    replace Zo := hid (Zo.out.now b)
    replace Zd := hid (Zd.out.now b)
    replace Zu := hid (Zu.out.now b)
    replace Zq := hid (Zq.out.now b)
    replace Zr := hid (Zr.out.now b)
    replace Pm := hid (Pm.out.step b)
    replace Po := hid (Po.out.step b)
    replace PX := hid (PX.out.step b)
    replace PY := hid (PY.out.step b)
    replace Pq := hid (Pq.out.step b)
    replace Pr := hid (Pr.out.step b)
    replace G := hid (below_step G.out b)
    have lz78 := (show Below _ _ _ from b).size
    clear b 
    go_wp2_with fail
    refine (bits_some HF0.out _).mono ?_
    rintro e w79 ⟨rfl, b⟩
    replace Zm := hid (Zm.out.now b)
    replace Zo := hid (Zo.out.now b)
    replace Zd := hid (Zd.out.now b)
    replace Zu := hid (Zu.out.now b)
    replace Zq := hid (Zq.out.now b)
    replace Zr := hid (Zr.out.now b)
    replace Pm := hid (Pm.out.step b)
    replace Po := hid (Po.out.step b)
    replace PX := hid (PX.out.step b)
    replace PY := hid (PY.out.step b)
    replace Pq := hid (Pq.out.step b)
    replace Pr := hid (Pr.out.step b)
    replace G := hid (below_step G.out b)
    have lz80 := (show Below _ _ _ from b).size
    clear b 
    go_wp2
    go_ret
    exact ⟨rfl, G.out⟩
end Go.Proofs.YtbamffggnnacaaaDoor
