/-
  Fi8: firstWithin.
-/
import Derived.Test.YtaoammmnpfbdfaaQRq8ToMWord
import Derived.Test.YtaoammmnpfbdfaaQInv6
import Derived.Test.YtaoammmnpfbdfaaQRp8
import Derived.Test.YtaoammmnpfbdfaaQZModToZDivs
import Derived.Test.YtaoammmnpfbdfaaQRootAllToTailY
import Derived.Deep.LoopGhost
namespace Go.Proofs.Ytaoammmnpfbdfaa
open Go.RowKit
set_option linter.unusedVariables false

def Met2 (W wx : World) (s1 s2 : Value) (z1 z2 : Int) (k : Nat) : Prop :=
  ∃ b1 b2 n1 n2, ∃ x1 x2 : List Int, ∃ a1 c1 a2 c2, s1 = .pointer (some ⟨b1, 0, none⟩) ∧ s2 = .pointer (some ⟨b2, 0, none⟩) ∧ Below W.heap.size W wx ∧ W.heap.size ≤ b1 ∧ b1 < wx.heap.size ∧ W.heap.size ≤ b2 ∧ b2 < wx.heap.size ∧ b1 ≠ b2 ∧
    Duo wx b1 (.bool n1) (.slice a1 x1.length c1) ∧ Duo wx b2 (.bool n2) (.slice a2 x2.length c2) ∧ Zi wx (.agg #[.bool n1, .slice a1 x1.length c1]) z1 k ∧ Zi wx (.agg #[.bool n2, .slice a2 x2.length c2]) z2 k
/-- What stands at the head of the loop. -/
def FiH (w : World) (O R K : Int) (k b8 b9 : Nat) (g : Nat) (wx : World) : Prop :=
  ∃ before rest tb t s : Int, ∃ b0 b1 x0 x1 t0 t1 p0 p1 q0 q1 : Value, Eu O R K before rest tb t s ∧ g = rest.natAbs ∧
    Duo wx w.heap.size b0 b1 ∧ Duo wx (w.heap.size + 1 + 1 + 1) x0 x1 ∧ Duo wx (w.heap.size + 1 + 1 + 1 + 1) t0 t1 ∧ Duo wx b8 p0 p1 ∧ Duo wx b9 q0 q1 ∧
    Zi wx (.agg #[b0, b1]) K k ∧ Zi wx (.agg #[x0, x1]) rest k ∧ Zi wx (.agg #[t0, t1]) t k ∧ Zi wx (.agg #[p0, p1]) before k ∧ Zi wx (.agg #[q0, q1]) tb k ∧ Below w.heap.size w wx
/-- What firstWithin answers. -/
def Firsted (w : World) (O R K : Int) (k : Nat) (e : Ending) (w' : World) : Prop :=
  ∃ before rest tb t s : Int, ∃ v u : Value, Eu O R K before rest tb t s ∧ rest ≤ K ∧ e = .returned (.tuple #[v, u]) ∧ Zi w' v rest k ∧ Zi w' u t k ∧ Below w.heap.size w w'
set_option maxHeartbeats 25600000 in
set_option maxRecDepth 100000 in
theorem first_z {w : World} {vb vr vo : Value} {KB R O : Int} {k : Nat} (hb : Zi w vb KB k) (hr : Zi w vr R k) (ho : Zi w vo O k) (h1 : 1 ≤ k) (hk : k ≤ 68719476736) (hK : 0 ≤ KB) (hKO : KB < O) :
    Calls Try.prog 56 #[vb, vr, vo] w (Firsted w O R KB k) := by
  have LO := hid ho.lt
  have HK := hid hK
  have HKO := hid hKO
  have L1 := hid (pw_one h1)
  clear hK hKO
  have zb0 := hb
  obtain ⟨nb, xb, adb, cb, rfl, -, -, -⟩ := hb
  have zr0 := hr
  obtain ⟨nr, xr, adr, cr, rfl, -, -, -⟩ := hr
  have zo0 := ho
  obtain ⟨no, xo, ado, co, rfl, -, -, -⟩ := ho
  obtain ⟨W0, hW⟩ : ∃ W0, ((((w.alloc (duo (.bool nb) (.slice adb xb.length cb))).alloc (duo (.bool nr) (.slice adr xr.length cr))).alloc (duo (.bool no) (.slice ado xo.length co))).alloc zbox).alloc zbox = W0 := ⟨_, rfl⟩
  obtain ⟨b0, sz0⟩ := alloc5 w (duo (.bool nb) (.slice adb xb.length cb)) (duo (.bool nr) (.slice adr xr.length cr)) (duo (.bool no) (.slice ado xo.length co)) zbox zbox
  rw [hW] at b0 sz0
  have Pb : Hid (Duo W0 (w.heap.size) (.bool nb) (.slice adb xb.length cb)) := by unfold Hid; rw [← hW]; exact duo_late (duo_late (duo_late (duo_late (duo_at (by simp)) _) _) _) _
  have Pr : Hid (Duo W0 (w.heap.size + 1) (.bool nr) (.slice adr xr.length cr)) := by unfold Hid; rw [← hW]; exact duo_late (duo_late (duo_late (duo_at (by simp)) _) _) _
  have Po : Hid (Duo W0 (w.heap.size + 1 + 1) (.bool no) (.slice ado xo.length co)) := by unfold Hid; rw [← hW]; exact duo_late (duo_late (duo_at (by simp)) _) _
  have PRR : Hid (Duo W0 (w.heap.size + 1 + 1 + 1) (.bool false) (.slice none 0 0)) := by unfold Hid; rw [← hW]; exact duo_late (duo_at (by simp)) _
  have PRT : Hid (Duo W0 (w.heap.size + 1 + 1 + 1 + 1) (.bool false) (.slice none 0 0)) := by unfold Hid; rw [← hW]; exact duo_at (by simp)
  have Zb := hid (zb0.now b0)
  clear zb0
  have Zr := hid (zr0.now b0)
  clear zr0
  have Zo := hid (zo0.now b0)
  clear zo0
  have G := hid b0
  clear b0
  have EW := hid hW
  clear hW
  go_enter Try.func56, Try.ntmps56
  skip
  go_wp2_with fail
  rw [EW.out]
  clear EW
  go_cut [8, 9] from 13 (fun s1 s2 wx => Met2 W0 wx s1 s2 O 0 k)
  case first =>
    have GR : Hid (Below W0.heap.size W0 W0) := Below.refl _ _
    clear Pb
    clear Pr
    clear PRR
    clear PRT
    clear Zb
    clear Zr
    refine wp_region_X (fun w' => w'.cell? ⟨w.heap.size + 1 + 1, 0, none⟩ = some (.bool no) ∧ w'.cell? ⟨w.heap.size + 1 + 1, 1, none⟩ = some (.slice ado xo.length co)) [] (by kernel_rfl) ?_
    obtain ⟨D1, hD⟩ : ∃ D1, W0.drew = D1 := ⟨_, rfl⟩
    have b : Below W0.heap.size W0 D1 := by rw [← hD]; exact (Below.refl _ _).drew
    rw [hD]
    clear hD
    replace Zo := hid (Zo.out.now b)
    replace Po := hid (Po.out.step b)
    replace G := hid (below_step G.out b)
    replace GR := hid (below_step GR.out b)
    have lz2 := (show Below _ _ _ from b).size
    clear b
    refine wpAnyX_take (i := 0) (oi := { dst := some 13, op := Op.load 24 (Operand.tmp 5), type := 24, pos := "recover.go:36", after := #[], guard := none }) (v := (.agg #[(.bool no), (.slice ado xo.length co)])) rfl (by kernel_rfl) (fun _ _ _ h => h) (Or.inl ⟨by rfl, ?_⟩) ⟨Po.out.c0, Po.out.c1⟩ ?_
    · intro w hSw
      (try dsimp only at hSw)
      go_simp
    simp only [Act.put, List.setIfInBounds_toArray, List.set_cons_zero, List.set_cons_succ]
    refine wpAnyX_three (i := 1) (j := 2) (k := 3) (oi := { dst := some 14, op := Op.call { callee := Callee.value (Operand.func 20), args := #[Operand.const (Value.int IntKind.i64 0)], argTypes := #[2] }, type := 24, pos := "recover.go:36", after := #[], guard := none }) (oj := { dst := some 8, op := Op.alloc 24, type := 0, pos := "recover.go:36", after := #[], guard := none }) (ok := { dst := some 9, op := Op.alloc 24, type := 0, pos := "recover.go:36", after := #[], guard := none }) (by kernel_rfl) rfl rfl rfl (fun K hK => ?_) (fun K hK => ?_) (fun K hK => ?_)
    · skip
      go_simp
      go_at_call 20
      refine (of_z (n := 0) (by decide) (by decide) _).mono ?_
      rintro e w3 ⟨r0, rfl, m0, b⟩
      obtain ⟨nz, xz, adz, qz, rfl, -, -, -, -, -⟩ := id m0
      replace Zo := hid (Zo.out.now b)
      replace Po := hid (Po.out.step b)
      replace G := hid (below_step G.out b)
      replace GR := hid (below_step GR.out b)
      have lz4 := (show Below _ _ _ from b).size
      have Zz := hid m0
      clear b m0
      refine hK.out _ _ (fun _ _ => ⟨Po.out.c0, Po.out.c1⟩) ?_
      clear hK
      refine wpAnyX_two (i := 2) (j := 3) (oi := { dst := some 8, op := Op.alloc 24, type := 0, pos := "recover.go:36", after := #[], guard := none }) (oj := { dst := some 9, op := Op.alloc 24, type := 0, pos := "recover.go:36", after := #[], guard := none }) (by kernel_rfl) rfl rfl (fun K hK => ?_) (fun K hK => ?_)
      · skip
        go_simp
        obtain ⟨V5, hW⟩ : ∃ V5, w3.alloc zbox = V5 := ⟨_, rfl⟩
        obtain ⟨kW, sz5⟩ := alloc1 w3 zbox
        rw [hW] at kW sz5
        replace sz5 : w3.heap.size < V5.heap.size := by omega
        replace Zo := hid (Zo.out.now kW)
        replace Zz := hid (Zz.out.now kW)
        replace Po := hid (Po.out.step kW)
        replace G := hid (below_step G.out kW)
        replace GR := hid (below_step GR.out kW)
        have lz6 := (show Below _ _ _ from kW).size
        have PN8 : Hid (Duo V5 (w3.heap.size) (.bool false) (.slice none 0 0)) := by unfold Hid; rw [← hW]; exact duo_at rfl
        rw [hW]
        clear hW kW
        refine hK.out _ _ (fun _ _ => ⟨Po.out.c0, Po.out.c1⟩) ?_
        clear hK
        try simp only [Act.put]
        refine wpAnyX_one (i := 3) (o := { dst := some 9, op := Op.alloc 24, type := 0, pos := "recover.go:36", after := #[], guard := none }) (by kernel_rfl) rfl (fun K hK => ?_)
        go_simp
        obtain ⟨V7, hW⟩ : ∃ V7, V5.alloc zbox = V7 := ⟨_, rfl⟩
        obtain ⟨kW, sz7⟩ := alloc1 V5 zbox
        rw [hW] at kW sz7
        replace sz7 : V5.heap.size < V7.heap.size := by omega
        replace Zo := hid (Zo.out.now kW)
        replace Zz := hid (Zz.out.now kW)
        replace Po := hid (Po.out.step kW)
        replace PN8 := hid (PN8.out.step kW)
        replace G := hid (below_step G.out kW)
        replace GR := hid (below_step GR.out kW)
        have lz8 := (show Below _ _ _ from kW).size
        have PN9 : Hid (Duo V7 (V5.heap.size) (.bool false) (.slice none 0 0)) := by unfold Hid; rw [← hW]; exact duo_at rfl
        rw [hW]
        clear hW kW
        refine hK.out _ _ (fun _ _ => ⟨Po.out.c0, Po.out.c1⟩) ?_
        clear hK
        try simp only [Act.put]
        refine wpAnyX_one (i := 4) (o := { dst := none, op := Op.store 24 (Operand.tmp 8) (Operand.tmp 13), type := 0, pos := "recover.go:36", after := #[{ on := 2, ground := Ground.data }, { on := 0, ground := Ground.data }, { on := 1, ground := Ground.chain }, { on := 0, ground := Ground.phase }, { on := 1, ground := Ground.textOnly Departure.lateStoresUnsure }, { on := 2, ground := Ground.phase }, { on := 3, ground := Ground.phase }], guard := none }) (by kernel_rfl) rfl (fun K hK => ?_)
        have cN80 := PN8.out.c0
        have cN81 := PN8.out.c1
        have fN80 := PN8.out.fz 0
        have fN81 := PN8.out.fz 1
        go_simp
        clear cN80 cN81 fN80 fN81
        obtain ⟨V9, hW⟩ : ∃ V9, (V7.setCell ⟨w3.heap.size, 0, none⟩ (.bool no)).setCell ⟨w3.heap.size, 1, none⟩ (.slice ado xo.length co) = V9 := ⟨_, rfl⟩
        replace Zo := hid ((Zo.out).wk ((PN8.out).wk (.bool no) (.slice ado xo.length co)))
        replace Zz := hid ((Zz.out).box (PN8.out) (.bool no) (.slice ado xo.length co))
        replace Po := hid ((Po.out).box (b' := w3.heap.size) (by omega) (.bool no) (.slice ado xo.length co))
        replace PN8 := hid ((PN8.out).set (.bool no) (.slice ado xo.length co))
        replace PN9 := hid ((PN9.out).box (b' := w3.heap.size) (by omega) (.bool no) (.slice ado xo.length co))
        replace G : Hid (Below w.heap.size w (((V7.setCell ⟨w3.heap.size, 0, none⟩ (.bool no)).setCell ⟨w3.heap.size, 1, none⟩ (.slice ado xo.length co)))) := bset (bset (G.out) (by omega)) (by omega)
        replace GR : Hid (Below W0.heap.size W0 (((V7.setCell ⟨w3.heap.size, 0, none⟩ (.bool no)).setCell ⟨w3.heap.size, 1, none⟩ (.slice ado xo.length co)))) := bset (bset (GR.out) (by omega)) (by omega)
        have sz9 : V9.heap.size = V7.heap.size := by rw [← hW]; simp
        rw [hW] at Zo Zz Po PN8 PN9 G GR
        rw [hW]
        clear hW
        refine hK.out _ _ (fun _ _ => ⟨Po.out.c0, Po.out.c1⟩) ?_
        clear hK
        try simp only [Act.put]
        refine wpAnyX_one (i := 5) (o := { dst := none, op := Op.store 24 (Operand.tmp 9) (Operand.tmp 14), type := 0, pos := "recover.go:36", after := #[{ on := 3, ground := Ground.data }, { on := 1, ground := Ground.data }, { on := 4, ground := Ground.chain }, { on := 0, ground := Ground.phase }, { on := 1, ground := Ground.phase }, { on := 2, ground := Ground.phase }, { on := 3, ground := Ground.phase }, { on := 4, ground := Ground.phase }], guard := none }) (by kernel_rfl) rfl (fun K hK => ?_)
        have cN90 := PN9.out.c0
        have cN91 := PN9.out.c1
        have fN90 := PN9.out.fz 0
        have fN91 := PN9.out.fz 1
        go_simp
        clear cN90 cN91 fN90 fN91
        obtain ⟨V10, hW⟩ : ∃ V10, (V9.setCell ⟨V5.heap.size, 0, none⟩ (.bool nz)).setCell ⟨V5.heap.size, 1, none⟩ (.slice adz xz.length qz) = V10 := ⟨_, rfl⟩
        replace Zo := hid ((Zo.out).wk ((PN9.out).wk (.bool nz) (.slice adz xz.length qz)))
        replace Zz := hid ((Zz.out).box (PN9.out) (.bool nz) (.slice adz xz.length qz))
        replace Po := hid ((Po.out).box (b' := V5.heap.size) (by omega) (.bool nz) (.slice adz xz.length qz))
        replace PN8 := hid ((PN8.out).box (b' := V5.heap.size) (by omega) (.bool nz) (.slice adz xz.length qz))
        replace PN9 := hid ((PN9.out).set (.bool nz) (.slice adz xz.length qz))
        replace G : Hid (Below w.heap.size w (((V9.setCell ⟨V5.heap.size, 0, none⟩ (.bool nz)).setCell ⟨V5.heap.size, 1, none⟩ (.slice adz xz.length qz)))) := bset (bset (G.out) (by omega)) (by omega)
        replace GR : Hid (Below W0.heap.size W0 (((V9.setCell ⟨V5.heap.size, 0, none⟩ (.bool nz)).setCell ⟨V5.heap.size, 1, none⟩ (.slice adz xz.length qz)))) := bset (bset (GR.out) (by omega)) (by omega)
        have sz10 : V10.heap.size = V9.heap.size := by rw [← hW]; simp
        rw [hW] at Zo Zz Po PN8 PN9 G GR
        rw [hW]
        clear hW
        refine hK.out _ _ (fun _ _ => ⟨Po.out.c0, Po.out.c1⟩) ?_
        clear hK
        try simp only [Act.put]
        refine wpAnyX_done (by kernel_rfl) ?_ _
        go_wp2_with fail
        go_meet
        exact ⟨_, _, _, _, _, _, _, _, _, _, rfl, rfl, GR.out, by omega, PN8.out.blk, by omega, PN9.out.blk, by omega, PN8.out, PN9.out, Zo.out, Zz.out.zi.more h1⟩
      · skip
        go_simp
        obtain ⟨V11, hW⟩ : ∃ V11, w3.alloc zbox = V11 := ⟨_, rfl⟩
        obtain ⟨kW, sz11⟩ := alloc1 w3 zbox
        rw [hW] at kW sz11
        replace sz11 : w3.heap.size < V11.heap.size := by omega
        replace Zo := hid (Zo.out.now kW)
        replace Zz := hid (Zz.out.now kW)
        replace Po := hid (Po.out.step kW)
        replace G := hid (below_step G.out kW)
        replace GR := hid (below_step GR.out kW)
        have lz12 := (show Below _ _ _ from kW).size
        have PN9 : Hid (Duo V11 (w3.heap.size) (.bool false) (.slice none 0 0)) := by unfold Hid; rw [← hW]; exact duo_at rfl
        rw [hW]
        clear hW kW
        refine hK.out _ _ (fun _ _ => ⟨Po.out.c0, Po.out.c1⟩) ?_
        clear hK
        try simp only [Act.put]
        refine wpAnyX_one (i := 2) (o := { dst := some 8, op := Op.alloc 24, type := 0, pos := "recover.go:36", after := #[], guard := none }) (by kernel_rfl) rfl (fun K hK => ?_)
        go_simp
        obtain ⟨V13, hW⟩ : ∃ V13, V11.alloc zbox = V13 := ⟨_, rfl⟩
        obtain ⟨kW, sz13⟩ := alloc1 V11 zbox
        rw [hW] at kW sz13
        replace sz13 : V11.heap.size < V13.heap.size := by omega
        replace Zo := hid (Zo.out.now kW)
        replace Zz := hid (Zz.out.now kW)
        replace Po := hid (Po.out.step kW)
        replace PN9 := hid (PN9.out.step kW)
        replace G := hid (below_step G.out kW)
        replace GR := hid (below_step GR.out kW)
        have lz14 := (show Below _ _ _ from kW).size
        have PN8 : Hid (Duo V13 (V11.heap.size) (.bool false) (.slice none 0 0)) := by unfold Hid; rw [← hW]; exact duo_at rfl
        rw [hW]
        clear hW kW
        refine hK.out _ _ (fun _ _ => ⟨Po.out.c0, Po.out.c1⟩) ?_
        clear hK
        try simp only [Act.put]
        refine wpAnyX_one (i := 4) (o := { dst := none, op := Op.store 24 (Operand.tmp 8) (Operand.tmp 13), type := 0, pos := "recover.go:36", after := #[{ on := 2, ground := Ground.data }, { on := 0, ground := Ground.data }, { on := 1, ground := Ground.chain }, { on := 0, ground := Ground.phase }, { on := 1, ground := Ground.textOnly Departure.lateStoresUnsure }, { on := 2, ground := Ground.phase }, { on := 3, ground := Ground.phase }], guard := none }) (by kernel_rfl) rfl (fun K hK => ?_)
        have cN80 := PN8.out.c0
        have cN81 := PN8.out.c1
        have fN80 := PN8.out.fz 0
        have fN81 := PN8.out.fz 1
        go_simp
        clear cN80 cN81 fN80 fN81
        obtain ⟨V15, hW⟩ : ∃ V15, (V13.setCell ⟨V11.heap.size, 0, none⟩ (.bool no)).setCell ⟨V11.heap.size, 1, none⟩ (.slice ado xo.length co) = V15 := ⟨_, rfl⟩
        replace Zo := hid ((Zo.out).wk ((PN8.out).wk (.bool no) (.slice ado xo.length co)))
        replace Zz := hid ((Zz.out).box (PN8.out) (.bool no) (.slice ado xo.length co))
        replace Po := hid ((Po.out).box (b' := V11.heap.size) (by omega) (.bool no) (.slice ado xo.length co))
        replace PN9 := hid ((PN9.out).box (b' := V11.heap.size) (by omega) (.bool no) (.slice ado xo.length co))
        replace PN8 := hid ((PN8.out).set (.bool no) (.slice ado xo.length co))
        replace G : Hid (Below w.heap.size w (((V13.setCell ⟨V11.heap.size, 0, none⟩ (.bool no)).setCell ⟨V11.heap.size, 1, none⟩ (.slice ado xo.length co)))) := bset (bset (G.out) (by omega)) (by omega)
        replace GR : Hid (Below W0.heap.size W0 (((V13.setCell ⟨V11.heap.size, 0, none⟩ (.bool no)).setCell ⟨V11.heap.size, 1, none⟩ (.slice ado xo.length co)))) := bset (bset (GR.out) (by omega)) (by omega)
        have sz15 : V15.heap.size = V13.heap.size := by rw [← hW]; simp
        rw [hW] at Zo Zz Po PN9 PN8 G GR
        rw [hW]
        clear hW
        refine hK.out _ _ (fun _ _ => ⟨Po.out.c0, Po.out.c1⟩) ?_
        clear hK
        try simp only [Act.put]
        refine wpAnyX_one (i := 5) (o := { dst := none, op := Op.store 24 (Operand.tmp 9) (Operand.tmp 14), type := 0, pos := "recover.go:36", after := #[{ on := 3, ground := Ground.data }, { on := 1, ground := Ground.data }, { on := 4, ground := Ground.chain }, { on := 0, ground := Ground.phase }, { on := 1, ground := Ground.phase }, { on := 2, ground := Ground.phase }, { on := 3, ground := Ground.phase }, { on := 4, ground := Ground.phase }], guard := none }) (by kernel_rfl) rfl (fun K hK => ?_)
        have cN90 := PN9.out.c0
        have cN91 := PN9.out.c1
        have fN90 := PN9.out.fz 0
        have fN91 := PN9.out.fz 1
        go_simp
        clear cN90 cN91 fN90 fN91
        obtain ⟨V16, hW⟩ : ∃ V16, (V15.setCell ⟨w3.heap.size, 0, none⟩ (.bool nz)).setCell ⟨w3.heap.size, 1, none⟩ (.slice adz xz.length qz) = V16 := ⟨_, rfl⟩
        replace Zo := hid ((Zo.out).wk ((PN9.out).wk (.bool nz) (.slice adz xz.length qz)))
        replace Zz := hid ((Zz.out).box (PN9.out) (.bool nz) (.slice adz xz.length qz))
        replace Po := hid ((Po.out).box (b' := w3.heap.size) (by omega) (.bool nz) (.slice adz xz.length qz))
        replace PN9 := hid ((PN9.out).set (.bool nz) (.slice adz xz.length qz))
        replace PN8 := hid ((PN8.out).box (b' := w3.heap.size) (by omega) (.bool nz) (.slice adz xz.length qz))
        replace G : Hid (Below w.heap.size w (((V15.setCell ⟨w3.heap.size, 0, none⟩ (.bool nz)).setCell ⟨w3.heap.size, 1, none⟩ (.slice adz xz.length qz)))) := bset (bset (G.out) (by omega)) (by omega)
        replace GR : Hid (Below W0.heap.size W0 (((V15.setCell ⟨w3.heap.size, 0, none⟩ (.bool nz)).setCell ⟨w3.heap.size, 1, none⟩ (.slice adz xz.length qz)))) := bset (bset (GR.out) (by omega)) (by omega)
        have sz16 : V16.heap.size = V15.heap.size := by rw [← hW]; simp
        rw [hW] at Zo Zz Po PN9 PN8 G GR
        rw [hW]
        clear hW
        refine hK.out _ _ (fun _ _ => ⟨Po.out.c0, Po.out.c1⟩) ?_
        clear hK
        try simp only [Act.put]
        refine wpAnyX_done (by kernel_rfl) ?_ _
        go_wp2_with fail
        go_meet
        exact ⟨_, _, _, _, _, _, _, _, _, _, rfl, rfl, GR.out, by omega, PN8.out.blk, by omega, PN9.out.blk, by omega, PN8.out, PN9.out, Zo.out, Zz.out.zi.more h1⟩
    · skip
      go_simp
      obtain ⟨V17, hW⟩ : ∃ V17, D1.alloc zbox = V17 := ⟨_, rfl⟩
      obtain ⟨kW, sz17⟩ := alloc1 D1 zbox
      rw [hW] at kW sz17
      replace sz17 : D1.heap.size < V17.heap.size := by omega
      replace Zo := hid (Zo.out.now kW)
      replace Po := hid (Po.out.step kW)
      replace G := hid (below_step G.out kW)
      replace GR := hid (below_step GR.out kW)
      have lz18 := (show Below _ _ _ from kW).size
      have PN8 : Hid (Duo V17 (D1.heap.size) (.bool false) (.slice none 0 0)) := by unfold Hid; rw [← hW]; exact duo_at rfl
      rw [hW]
      clear hW kW
      refine hK.out _ _ (fun _ _ => ⟨Po.out.c0, Po.out.c1⟩) ?_
      clear hK
      try simp only [Act.put]
      refine wpAnyX_two (i := 1) (j := 3) (oi := { dst := some 14, op := Op.call { callee := Callee.value (Operand.func 20), args := #[Operand.const (Value.int IntKind.i64 0)], argTypes := #[2] }, type := 24, pos := "recover.go:36", after := #[], guard := none }) (oj := { dst := some 9, op := Op.alloc 24, type := 0, pos := "recover.go:36", after := #[], guard := none }) (by kernel_rfl) rfl rfl (fun K hK => ?_) (fun K hK => ?_)
      · skip
        go_simp
        go_at_call 20
        refine (of_z (n := 0) (by decide) (by decide) _).mono ?_
        rintro e w19 ⟨r0, rfl, m0, b⟩
        obtain ⟨nz, xz, adz, qz, rfl, -, -, -, -, -⟩ := id m0
        replace Zo := hid (Zo.out.now b)
        replace Po := hid (Po.out.step b)
        replace PN8 := hid (PN8.out.step b)
        replace G := hid (below_step G.out b)
        replace GR := hid (below_step GR.out b)
        have lz20 := (show Below _ _ _ from b).size
        have Zz := hid m0
        clear b m0
        refine hK.out _ _ (fun _ _ => ⟨Po.out.c0, Po.out.c1⟩) ?_
        clear hK
        refine wpAnyX_one (i := 3) (o := { dst := some 9, op := Op.alloc 24, type := 0, pos := "recover.go:36", after := #[], guard := none }) (by kernel_rfl) rfl (fun K hK => ?_)
        go_simp
        obtain ⟨V21, hW⟩ : ∃ V21, w19.alloc zbox = V21 := ⟨_, rfl⟩
        obtain ⟨kW, sz21⟩ := alloc1 w19 zbox
        rw [hW] at kW sz21
        replace sz21 : w19.heap.size < V21.heap.size := by omega
        replace Zo := hid (Zo.out.now kW)
        replace Zz := hid (Zz.out.now kW)
        replace Po := hid (Po.out.step kW)
        replace PN8 := hid (PN8.out.step kW)
        replace G := hid (below_step G.out kW)
        replace GR := hid (below_step GR.out kW)
        have lz22 := (show Below _ _ _ from kW).size
        have PN9 : Hid (Duo V21 (w19.heap.size) (.bool false) (.slice none 0 0)) := by unfold Hid; rw [← hW]; exact duo_at rfl
        rw [hW]
        clear hW kW
        refine hK.out _ _ (fun _ _ => ⟨Po.out.c0, Po.out.c1⟩) ?_
        clear hK
        try simp only [Act.put]
        refine wpAnyX_one (i := 4) (o := { dst := none, op := Op.store 24 (Operand.tmp 8) (Operand.tmp 13), type := 0, pos := "recover.go:36", after := #[{ on := 2, ground := Ground.data }, { on := 0, ground := Ground.data }, { on := 1, ground := Ground.chain }, { on := 0, ground := Ground.phase }, { on := 1, ground := Ground.textOnly Departure.lateStoresUnsure }, { on := 2, ground := Ground.phase }, { on := 3, ground := Ground.phase }], guard := none }) (by kernel_rfl) rfl (fun K hK => ?_)
        have cN80 := PN8.out.c0
        have cN81 := PN8.out.c1
        have fN80 := PN8.out.fz 0
        have fN81 := PN8.out.fz 1
        go_simp
        clear cN80 cN81 fN80 fN81
        obtain ⟨V23, hW⟩ : ∃ V23, (V21.setCell ⟨D1.heap.size, 0, none⟩ (.bool no)).setCell ⟨D1.heap.size, 1, none⟩ (.slice ado xo.length co) = V23 := ⟨_, rfl⟩
        replace Zo := hid ((Zo.out).wk ((PN8.out).wk (.bool no) (.slice ado xo.length co)))
        replace Zz := hid ((Zz.out).box (PN8.out) (.bool no) (.slice ado xo.length co))
        replace Po := hid ((Po.out).box (b' := D1.heap.size) (by omega) (.bool no) (.slice ado xo.length co))
        replace PN8 := hid ((PN8.out).set (.bool no) (.slice ado xo.length co))
        replace PN9 := hid ((PN9.out).box (b' := D1.heap.size) (by omega) (.bool no) (.slice ado xo.length co))
        replace G : Hid (Below w.heap.size w (((V21.setCell ⟨D1.heap.size, 0, none⟩ (.bool no)).setCell ⟨D1.heap.size, 1, none⟩ (.slice ado xo.length co)))) := bset (bset (G.out) (by omega)) (by omega)
        replace GR : Hid (Below W0.heap.size W0 (((V21.setCell ⟨D1.heap.size, 0, none⟩ (.bool no)).setCell ⟨D1.heap.size, 1, none⟩ (.slice ado xo.length co)))) := bset (bset (GR.out) (by omega)) (by omega)
        have sz23 : V23.heap.size = V21.heap.size := by rw [← hW]; simp
        rw [hW] at Zo Zz Po PN8 PN9 G GR
        rw [hW]
        clear hW
        refine hK.out _ _ (fun _ _ => ⟨Po.out.c0, Po.out.c1⟩) ?_
        clear hK
        try simp only [Act.put]
        refine wpAnyX_one (i := 5) (o := { dst := none, op := Op.store 24 (Operand.tmp 9) (Operand.tmp 14), type := 0, pos := "recover.go:36", after := #[{ on := 3, ground := Ground.data }, { on := 1, ground := Ground.data }, { on := 4, ground := Ground.chain }, { on := 0, ground := Ground.phase }, { on := 1, ground := Ground.phase }, { on := 2, ground := Ground.phase }, { on := 3, ground := Ground.phase }, { on := 4, ground := Ground.phase }], guard := none }) (by kernel_rfl) rfl (fun K hK => ?_)
        have cN90 := PN9.out.c0
        have cN91 := PN9.out.c1
        have fN90 := PN9.out.fz 0
        have fN91 := PN9.out.fz 1
        go_simp
        clear cN90 cN91 fN90 fN91
        obtain ⟨V24, hW⟩ : ∃ V24, (V23.setCell ⟨w19.heap.size, 0, none⟩ (.bool nz)).setCell ⟨w19.heap.size, 1, none⟩ (.slice adz xz.length qz) = V24 := ⟨_, rfl⟩
        replace Zo := hid ((Zo.out).wk ((PN9.out).wk (.bool nz) (.slice adz xz.length qz)))
        replace Zz := hid ((Zz.out).box (PN9.out) (.bool nz) (.slice adz xz.length qz))
        replace Po := hid ((Po.out).box (b' := w19.heap.size) (by omega) (.bool nz) (.slice adz xz.length qz))
        replace PN8 := hid ((PN8.out).box (b' := w19.heap.size) (by omega) (.bool nz) (.slice adz xz.length qz))
        replace PN9 := hid ((PN9.out).set (.bool nz) (.slice adz xz.length qz))
        replace G : Hid (Below w.heap.size w (((V23.setCell ⟨w19.heap.size, 0, none⟩ (.bool nz)).setCell ⟨w19.heap.size, 1, none⟩ (.slice adz xz.length qz)))) := bset (bset (G.out) (by omega)) (by omega)
        replace GR : Hid (Below W0.heap.size W0 (((V23.setCell ⟨w19.heap.size, 0, none⟩ (.bool nz)).setCell ⟨w19.heap.size, 1, none⟩ (.slice adz xz.length qz)))) := bset (bset (GR.out) (by omega)) (by omega)
        have sz24 : V24.heap.size = V23.heap.size := by rw [← hW]; simp
        rw [hW] at Zo Zz Po PN8 PN9 G GR
        rw [hW]
        clear hW
        refine hK.out _ _ (fun _ _ => ⟨Po.out.c0, Po.out.c1⟩) ?_
        clear hK
        try simp only [Act.put]
        refine wpAnyX_done (by kernel_rfl) ?_ _
        go_wp2_with fail
        go_meet
        exact ⟨_, _, _, _, _, _, _, _, _, _, rfl, rfl, GR.out, by omega, PN8.out.blk, by omega, PN9.out.blk, by omega, PN8.out, PN9.out, Zo.out, Zz.out.zi.more h1⟩
      · skip
        go_simp
        obtain ⟨V25, hW⟩ : ∃ V25, V17.alloc zbox = V25 := ⟨_, rfl⟩
        obtain ⟨kW, sz25⟩ := alloc1 V17 zbox
        rw [hW] at kW sz25
        replace sz25 : V17.heap.size < V25.heap.size := by omega
        replace Zo := hid (Zo.out.now kW)
        replace Po := hid (Po.out.step kW)
        replace PN8 := hid (PN8.out.step kW)
        replace G := hid (below_step G.out kW)
        replace GR := hid (below_step GR.out kW)
        have lz26 := (show Below _ _ _ from kW).size
        have PN9 : Hid (Duo V25 (V17.heap.size) (.bool false) (.slice none 0 0)) := by unfold Hid; rw [← hW]; exact duo_at rfl
        rw [hW]
        clear hW kW
        refine hK.out _ _ (fun _ _ => ⟨Po.out.c0, Po.out.c1⟩) ?_
        clear hK
        try simp only [Act.put]
        refine wpAnyX_one (i := 1) (o := { dst := some 14, op := Op.call { callee := Callee.value (Operand.func 20), args := #[Operand.const (Value.int IntKind.i64 0)], argTypes := #[2] }, type := 24, pos := "recover.go:36", after := #[], guard := none }) (by kernel_rfl) rfl (fun K hK => ?_)
        go_simp
        go_at_call 20
        refine (of_z (n := 0) (by decide) (by decide) _).mono ?_
        rintro e w27 ⟨r0, rfl, m0, b⟩
        obtain ⟨nz, xz, adz, qz, rfl, -, -, -, -, -⟩ := id m0
        replace Zo := hid (Zo.out.now b)
        replace Po := hid (Po.out.step b)
        replace PN8 := hid (PN8.out.step b)
        replace PN9 := hid (PN9.out.step b)
        replace G := hid (below_step G.out b)
        replace GR := hid (below_step GR.out b)
        have lz28 := (show Below _ _ _ from b).size
        have Zz := hid m0
        clear b m0
        refine hK.out _ _ (fun _ _ => ⟨Po.out.c0, Po.out.c1⟩) ?_
        clear hK
        refine wpAnyX_one (i := 4) (o := { dst := none, op := Op.store 24 (Operand.tmp 8) (Operand.tmp 13), type := 0, pos := "recover.go:36", after := #[{ on := 2, ground := Ground.data }, { on := 0, ground := Ground.data }, { on := 1, ground := Ground.chain }, { on := 0, ground := Ground.phase }, { on := 1, ground := Ground.textOnly Departure.lateStoresUnsure }, { on := 2, ground := Ground.phase }, { on := 3, ground := Ground.phase }], guard := none }) (by kernel_rfl) rfl (fun K hK => ?_)
        have cN80 := PN8.out.c0
        have cN81 := PN8.out.c1
        have fN80 := PN8.out.fz 0
        have fN81 := PN8.out.fz 1
        go_simp
        clear cN80 cN81 fN80 fN81
        obtain ⟨V29, hW⟩ : ∃ V29, (w27.setCell ⟨D1.heap.size, 0, none⟩ (.bool no)).setCell ⟨D1.heap.size, 1, none⟩ (.slice ado xo.length co) = V29 := ⟨_, rfl⟩
        replace Zo := hid ((Zo.out).wk ((PN8.out).wk (.bool no) (.slice ado xo.length co)))
        replace Zz := hid ((Zz.out).box (PN8.out) (.bool no) (.slice ado xo.length co))
        replace Po := hid ((Po.out).box (b' := D1.heap.size) (by omega) (.bool no) (.slice ado xo.length co))
        replace PN8 := hid ((PN8.out).set (.bool no) (.slice ado xo.length co))
        replace PN9 := hid ((PN9.out).box (b' := D1.heap.size) (by omega) (.bool no) (.slice ado xo.length co))
        replace G : Hid (Below w.heap.size w (((w27.setCell ⟨D1.heap.size, 0, none⟩ (.bool no)).setCell ⟨D1.heap.size, 1, none⟩ (.slice ado xo.length co)))) := bset (bset (G.out) (by omega)) (by omega)
        replace GR : Hid (Below W0.heap.size W0 (((w27.setCell ⟨D1.heap.size, 0, none⟩ (.bool no)).setCell ⟨D1.heap.size, 1, none⟩ (.slice ado xo.length co)))) := bset (bset (GR.out) (by omega)) (by omega)
        have sz29 : V29.heap.size = w27.heap.size := by rw [← hW]; simp
        rw [hW] at Zo Zz Po PN8 PN9 G GR
        rw [hW]
        clear hW
        refine hK.out _ _ (fun _ _ => ⟨Po.out.c0, Po.out.c1⟩) ?_
        clear hK
        try simp only [Act.put]
        refine wpAnyX_one (i := 5) (o := { dst := none, op := Op.store 24 (Operand.tmp 9) (Operand.tmp 14), type := 0, pos := "recover.go:36", after := #[{ on := 3, ground := Ground.data }, { on := 1, ground := Ground.data }, { on := 4, ground := Ground.chain }, { on := 0, ground := Ground.phase }, { on := 1, ground := Ground.phase }, { on := 2, ground := Ground.phase }, { on := 3, ground := Ground.phase }, { on := 4, ground := Ground.phase }], guard := none }) (by kernel_rfl) rfl (fun K hK => ?_)
        have cN90 := PN9.out.c0
        have cN91 := PN9.out.c1
        have fN90 := PN9.out.fz 0
        have fN91 := PN9.out.fz 1
        go_simp
        clear cN90 cN91 fN90 fN91
        obtain ⟨V30, hW⟩ : ∃ V30, (V29.setCell ⟨V17.heap.size, 0, none⟩ (.bool nz)).setCell ⟨V17.heap.size, 1, none⟩ (.slice adz xz.length qz) = V30 := ⟨_, rfl⟩
        replace Zo := hid ((Zo.out).wk ((PN9.out).wk (.bool nz) (.slice adz xz.length qz)))
        replace Zz := hid ((Zz.out).box (PN9.out) (.bool nz) (.slice adz xz.length qz))
        replace Po := hid ((Po.out).box (b' := V17.heap.size) (by omega) (.bool nz) (.slice adz xz.length qz))
        replace PN8 := hid ((PN8.out).box (b' := V17.heap.size) (by omega) (.bool nz) (.slice adz xz.length qz))
        replace PN9 := hid ((PN9.out).set (.bool nz) (.slice adz xz.length qz))
        replace G : Hid (Below w.heap.size w (((V29.setCell ⟨V17.heap.size, 0, none⟩ (.bool nz)).setCell ⟨V17.heap.size, 1, none⟩ (.slice adz xz.length qz)))) := bset (bset (G.out) (by omega)) (by omega)
        replace GR : Hid (Below W0.heap.size W0 (((V29.setCell ⟨V17.heap.size, 0, none⟩ (.bool nz)).setCell ⟨V17.heap.size, 1, none⟩ (.slice adz xz.length qz)))) := bset (bset (GR.out) (by omega)) (by omega)
        have sz30 : V30.heap.size = V29.heap.size := by rw [← hW]; simp
        rw [hW] at Zo Zz Po PN8 PN9 G GR
        rw [hW]
        clear hW
        refine hK.out _ _ (fun _ _ => ⟨Po.out.c0, Po.out.c1⟩) ?_
        clear hK
        try simp only [Act.put]
        refine wpAnyX_done (by kernel_rfl) ?_ _
        go_wp2_with fail
        go_meet
        exact ⟨_, _, _, _, _, _, _, _, _, _, rfl, rfl, GR.out, by omega, PN8.out.blk, by omega, PN9.out.blk, by omega, PN8.out, PN9.out, Zo.out, Zz.out.zi.more h1⟩
    · skip
      go_simp
      obtain ⟨V31, hW⟩ : ∃ V31, D1.alloc zbox = V31 := ⟨_, rfl⟩
      obtain ⟨kW, sz31⟩ := alloc1 D1 zbox
      rw [hW] at kW sz31
      replace sz31 : D1.heap.size < V31.heap.size := by omega
      replace Zo := hid (Zo.out.now kW)
      replace Po := hid (Po.out.step kW)
      replace G := hid (below_step G.out kW)
      replace GR := hid (below_step GR.out kW)
      have lz32 := (show Below _ _ _ from kW).size
      have PN9 : Hid (Duo V31 (D1.heap.size) (.bool false) (.slice none 0 0)) := by unfold Hid; rw [← hW]; exact duo_at rfl
      rw [hW]
      clear hW kW
      refine hK.out _ _ (fun _ _ => ⟨Po.out.c0, Po.out.c1⟩) ?_
      clear hK
      try simp only [Act.put]
      refine wpAnyX_two (i := 1) (j := 2) (oi := { dst := some 14, op := Op.call { callee := Callee.value (Operand.func 20), args := #[Operand.const (Value.int IntKind.i64 0)], argTypes := #[2] }, type := 24, pos := "recover.go:36", after := #[], guard := none }) (oj := { dst := some 8, op := Op.alloc 24, type := 0, pos := "recover.go:36", after := #[], guard := none }) (by kernel_rfl) rfl rfl (fun K hK => ?_) (fun K hK => ?_)
      · skip
        go_simp
        go_at_call 20
        refine (of_z (n := 0) (by decide) (by decide) _).mono ?_
        rintro e w33 ⟨r0, rfl, m0, b⟩
        obtain ⟨nz, xz, adz, qz, rfl, -, -, -, -, -⟩ := id m0
        replace Zo := hid (Zo.out.now b)
        replace Po := hid (Po.out.step b)
        replace PN9 := hid (PN9.out.step b)
        replace G := hid (below_step G.out b)
        replace GR := hid (below_step GR.out b)
        have lz34 := (show Below _ _ _ from b).size
        have Zz := hid m0
        clear b m0
        refine hK.out _ _ (fun _ _ => ⟨Po.out.c0, Po.out.c1⟩) ?_
        clear hK
        refine wpAnyX_one (i := 2) (o := { dst := some 8, op := Op.alloc 24, type := 0, pos := "recover.go:36", after := #[], guard := none }) (by kernel_rfl) rfl (fun K hK => ?_)
        go_simp
        obtain ⟨V35, hW⟩ : ∃ V35, w33.alloc zbox = V35 := ⟨_, rfl⟩
        obtain ⟨kW, sz35⟩ := alloc1 w33 zbox
        rw [hW] at kW sz35
        replace sz35 : w33.heap.size < V35.heap.size := by omega
        replace Zo := hid (Zo.out.now kW)
        replace Zz := hid (Zz.out.now kW)
        replace Po := hid (Po.out.step kW)
        replace PN9 := hid (PN9.out.step kW)
        replace G := hid (below_step G.out kW)
        replace GR := hid (below_step GR.out kW)
        have lz36 := (show Below _ _ _ from kW).size
        have PN8 : Hid (Duo V35 (w33.heap.size) (.bool false) (.slice none 0 0)) := by unfold Hid; rw [← hW]; exact duo_at rfl
        rw [hW]
        clear hW kW
        refine hK.out _ _ (fun _ _ => ⟨Po.out.c0, Po.out.c1⟩) ?_
        clear hK
        try simp only [Act.put]
        refine wpAnyX_one (i := 4) (o := { dst := none, op := Op.store 24 (Operand.tmp 8) (Operand.tmp 13), type := 0, pos := "recover.go:36", after := #[{ on := 2, ground := Ground.data }, { on := 0, ground := Ground.data }, { on := 1, ground := Ground.chain }, { on := 0, ground := Ground.phase }, { on := 1, ground := Ground.textOnly Departure.lateStoresUnsure }, { on := 2, ground := Ground.phase }, { on := 3, ground := Ground.phase }], guard := none }) (by kernel_rfl) rfl (fun K hK => ?_)
        have cN80 := PN8.out.c0
        have cN81 := PN8.out.c1
        have fN80 := PN8.out.fz 0
        have fN81 := PN8.out.fz 1
        go_simp
        clear cN80 cN81 fN80 fN81
        obtain ⟨V37, hW⟩ : ∃ V37, (V35.setCell ⟨w33.heap.size, 0, none⟩ (.bool no)).setCell ⟨w33.heap.size, 1, none⟩ (.slice ado xo.length co) = V37 := ⟨_, rfl⟩
        replace Zo := hid ((Zo.out).wk ((PN8.out).wk (.bool no) (.slice ado xo.length co)))
        replace Zz := hid ((Zz.out).box (PN8.out) (.bool no) (.slice ado xo.length co))
        replace Po := hid ((Po.out).box (b' := w33.heap.size) (by omega) (.bool no) (.slice ado xo.length co))
        replace PN9 := hid ((PN9.out).box (b' := w33.heap.size) (by omega) (.bool no) (.slice ado xo.length co))
        replace PN8 := hid ((PN8.out).set (.bool no) (.slice ado xo.length co))
        replace G : Hid (Below w.heap.size w (((V35.setCell ⟨w33.heap.size, 0, none⟩ (.bool no)).setCell ⟨w33.heap.size, 1, none⟩ (.slice ado xo.length co)))) := bset (bset (G.out) (by omega)) (by omega)
        replace GR : Hid (Below W0.heap.size W0 (((V35.setCell ⟨w33.heap.size, 0, none⟩ (.bool no)).setCell ⟨w33.heap.size, 1, none⟩ (.slice ado xo.length co)))) := bset (bset (GR.out) (by omega)) (by omega)
        have sz37 : V37.heap.size = V35.heap.size := by rw [← hW]; simp
        rw [hW] at Zo Zz Po PN9 PN8 G GR
        rw [hW]
        clear hW
        refine hK.out _ _ (fun _ _ => ⟨Po.out.c0, Po.out.c1⟩) ?_
        clear hK
        try simp only [Act.put]
        refine wpAnyX_one (i := 5) (o := { dst := none, op := Op.store 24 (Operand.tmp 9) (Operand.tmp 14), type := 0, pos := "recover.go:36", after := #[{ on := 3, ground := Ground.data }, { on := 1, ground := Ground.data }, { on := 4, ground := Ground.chain }, { on := 0, ground := Ground.phase }, { on := 1, ground := Ground.phase }, { on := 2, ground := Ground.phase }, { on := 3, ground := Ground.phase }, { on := 4, ground := Ground.phase }], guard := none }) (by kernel_rfl) rfl (fun K hK => ?_)
        have cN90 := PN9.out.c0
        have cN91 := PN9.out.c1
        have fN90 := PN9.out.fz 0
        have fN91 := PN9.out.fz 1
        go_simp
        clear cN90 cN91 fN90 fN91
        obtain ⟨V38, hW⟩ : ∃ V38, (V37.setCell ⟨D1.heap.size, 0, none⟩ (.bool nz)).setCell ⟨D1.heap.size, 1, none⟩ (.slice adz xz.length qz) = V38 := ⟨_, rfl⟩
        replace Zo := hid ((Zo.out).wk ((PN9.out).wk (.bool nz) (.slice adz xz.length qz)))
        replace Zz := hid ((Zz.out).box (PN9.out) (.bool nz) (.slice adz xz.length qz))
        replace Po := hid ((Po.out).box (b' := D1.heap.size) (by omega) (.bool nz) (.slice adz xz.length qz))
        replace PN9 := hid ((PN9.out).set (.bool nz) (.slice adz xz.length qz))
        replace PN8 := hid ((PN8.out).box (b' := D1.heap.size) (by omega) (.bool nz) (.slice adz xz.length qz))
        replace G : Hid (Below w.heap.size w (((V37.setCell ⟨D1.heap.size, 0, none⟩ (.bool nz)).setCell ⟨D1.heap.size, 1, none⟩ (.slice adz xz.length qz)))) := bset (bset (G.out) (by omega)) (by omega)
        replace GR : Hid (Below W0.heap.size W0 (((V37.setCell ⟨D1.heap.size, 0, none⟩ (.bool nz)).setCell ⟨D1.heap.size, 1, none⟩ (.slice adz xz.length qz)))) := bset (bset (GR.out) (by omega)) (by omega)
        have sz38 : V38.heap.size = V37.heap.size := by rw [← hW]; simp
        rw [hW] at Zo Zz Po PN9 PN8 G GR
        rw [hW]
        clear hW
        refine hK.out _ _ (fun _ _ => ⟨Po.out.c0, Po.out.c1⟩) ?_
        clear hK
        try simp only [Act.put]
        refine wpAnyX_done (by kernel_rfl) ?_ _
        go_wp2_with fail
        go_meet
        exact ⟨_, _, _, _, _, _, _, _, _, _, rfl, rfl, GR.out, by omega, PN8.out.blk, by omega, PN9.out.blk, by omega, PN8.out, PN9.out, Zo.out, Zz.out.zi.more h1⟩
      · skip
        go_simp
        obtain ⟨V39, hW⟩ : ∃ V39, V31.alloc zbox = V39 := ⟨_, rfl⟩
        obtain ⟨kW, sz39⟩ := alloc1 V31 zbox
        rw [hW] at kW sz39
        replace sz39 : V31.heap.size < V39.heap.size := by omega
        replace Zo := hid (Zo.out.now kW)
        replace Po := hid (Po.out.step kW)
        replace PN9 := hid (PN9.out.step kW)
        replace G := hid (below_step G.out kW)
        replace GR := hid (below_step GR.out kW)
        have lz40 := (show Below _ _ _ from kW).size
        have PN8 : Hid (Duo V39 (V31.heap.size) (.bool false) (.slice none 0 0)) := by unfold Hid; rw [← hW]; exact duo_at rfl
        rw [hW]
        clear hW kW
        refine hK.out _ _ (fun _ _ => ⟨Po.out.c0, Po.out.c1⟩) ?_
        clear hK
        try simp only [Act.put]
        refine wpAnyX_one (i := 1) (o := { dst := some 14, op := Op.call { callee := Callee.value (Operand.func 20), args := #[Operand.const (Value.int IntKind.i64 0)], argTypes := #[2] }, type := 24, pos := "recover.go:36", after := #[], guard := none }) (by kernel_rfl) rfl (fun K hK => ?_)
        go_simp
        go_at_call 20
        refine (of_z (n := 0) (by decide) (by decide) _).mono ?_
        rintro e w41 ⟨r0, rfl, m0, b⟩
        obtain ⟨nz, xz, adz, qz, rfl, -, -, -, -, -⟩ := id m0
        replace Zo := hid (Zo.out.now b)
        replace Po := hid (Po.out.step b)
        replace PN9 := hid (PN9.out.step b)
        replace PN8 := hid (PN8.out.step b)
        replace G := hid (below_step G.out b)
        replace GR := hid (below_step GR.out b)
        have lz42 := (show Below _ _ _ from b).size
        have Zz := hid m0
        clear b m0
        refine hK.out _ _ (fun _ _ => ⟨Po.out.c0, Po.out.c1⟩) ?_
        clear hK
        refine wpAnyX_one (i := 4) (o := { dst := none, op := Op.store 24 (Operand.tmp 8) (Operand.tmp 13), type := 0, pos := "recover.go:36", after := #[{ on := 2, ground := Ground.data }, { on := 0, ground := Ground.data }, { on := 1, ground := Ground.chain }, { on := 0, ground := Ground.phase }, { on := 1, ground := Ground.textOnly Departure.lateStoresUnsure }, { on := 2, ground := Ground.phase }, { on := 3, ground := Ground.phase }], guard := none }) (by kernel_rfl) rfl (fun K hK => ?_)
        have cN80 := PN8.out.c0
        have cN81 := PN8.out.c1
        have fN80 := PN8.out.fz 0
        have fN81 := PN8.out.fz 1
        go_simp
        clear cN80 cN81 fN80 fN81
        obtain ⟨V43, hW⟩ : ∃ V43, (w41.setCell ⟨V31.heap.size, 0, none⟩ (.bool no)).setCell ⟨V31.heap.size, 1, none⟩ (.slice ado xo.length co) = V43 := ⟨_, rfl⟩
        replace Zo := hid ((Zo.out).wk ((PN8.out).wk (.bool no) (.slice ado xo.length co)))
        replace Zz := hid ((Zz.out).box (PN8.out) (.bool no) (.slice ado xo.length co))
        replace Po := hid ((Po.out).box (b' := V31.heap.size) (by omega) (.bool no) (.slice ado xo.length co))
        replace PN9 := hid ((PN9.out).box (b' := V31.heap.size) (by omega) (.bool no) (.slice ado xo.length co))
        replace PN8 := hid ((PN8.out).set (.bool no) (.slice ado xo.length co))
        replace G : Hid (Below w.heap.size w (((w41.setCell ⟨V31.heap.size, 0, none⟩ (.bool no)).setCell ⟨V31.heap.size, 1, none⟩ (.slice ado xo.length co)))) := bset (bset (G.out) (by omega)) (by omega)
        replace GR : Hid (Below W0.heap.size W0 (((w41.setCell ⟨V31.heap.size, 0, none⟩ (.bool no)).setCell ⟨V31.heap.size, 1, none⟩ (.slice ado xo.length co)))) := bset (bset (GR.out) (by omega)) (by omega)
        have sz43 : V43.heap.size = w41.heap.size := by rw [← hW]; simp
        rw [hW] at Zo Zz Po PN9 PN8 G GR
        rw [hW]
        clear hW
        refine hK.out _ _ (fun _ _ => ⟨Po.out.c0, Po.out.c1⟩) ?_
        clear hK
        try simp only [Act.put]
        refine wpAnyX_one (i := 5) (o := { dst := none, op := Op.store 24 (Operand.tmp 9) (Operand.tmp 14), type := 0, pos := "recover.go:36", after := #[{ on := 3, ground := Ground.data }, { on := 1, ground := Ground.data }, { on := 4, ground := Ground.chain }, { on := 0, ground := Ground.phase }, { on := 1, ground := Ground.phase }, { on := 2, ground := Ground.phase }, { on := 3, ground := Ground.phase }, { on := 4, ground := Ground.phase }], guard := none }) (by kernel_rfl) rfl (fun K hK => ?_)
        have cN90 := PN9.out.c0
        have cN91 := PN9.out.c1
        have fN90 := PN9.out.fz 0
        have fN91 := PN9.out.fz 1
        go_simp
        clear cN90 cN91 fN90 fN91
        obtain ⟨V44, hW⟩ : ∃ V44, (V43.setCell ⟨D1.heap.size, 0, none⟩ (.bool nz)).setCell ⟨D1.heap.size, 1, none⟩ (.slice adz xz.length qz) = V44 := ⟨_, rfl⟩
        replace Zo := hid ((Zo.out).wk ((PN9.out).wk (.bool nz) (.slice adz xz.length qz)))
        replace Zz := hid ((Zz.out).box (PN9.out) (.bool nz) (.slice adz xz.length qz))
        replace Po := hid ((Po.out).box (b' := D1.heap.size) (by omega) (.bool nz) (.slice adz xz.length qz))
        replace PN9 := hid ((PN9.out).set (.bool nz) (.slice adz xz.length qz))
        replace PN8 := hid ((PN8.out).box (b' := D1.heap.size) (by omega) (.bool nz) (.slice adz xz.length qz))
        replace G : Hid (Below w.heap.size w (((V43.setCell ⟨D1.heap.size, 0, none⟩ (.bool nz)).setCell ⟨D1.heap.size, 1, none⟩ (.slice adz xz.length qz)))) := bset (bset (G.out) (by omega)) (by omega)
        replace GR : Hid (Below W0.heap.size W0 (((V43.setCell ⟨D1.heap.size, 0, none⟩ (.bool nz)).setCell ⟨D1.heap.size, 1, none⟩ (.slice adz xz.length qz)))) := bset (bset (GR.out) (by omega)) (by omega)
        have sz44 : V44.heap.size = V43.heap.size := by rw [← hW]; simp
        rw [hW] at Zo Zz Po PN9 PN8 G GR
        rw [hW]
        clear hW
        refine hK.out _ _ (fun _ _ => ⟨Po.out.c0, Po.out.c1⟩) ?_
        clear hK
        try simp only [Act.put]
        refine wpAnyX_done (by kernel_rfl) ?_ _
        go_wp2_with fail
        go_meet
        exact ⟨_, _, _, _, _, _, _, _, _, _, rfl, rfl, GR.out, by omega, PN8.out.blk, by omega, PN9.out.blk, by omega, PN8.out, PN9.out, Zo.out, Zz.out.zi.more h1⟩
  case rest =>
  obtain ⟨bk8, bk9, np, nq, xp, xq, adp, cp, adq, cq, rfl, rfl, b, ge8, lt8, ge9, lt9, ne89, p, q, m, m2⟩ := hcut
  replace Zb := hid (Zb.out.now b)
  replace Zr := hid (Zr.out.now b)
  replace Zo := hid (Zo.out.now b)
  replace Pb := hid (Pb.out.step b)
  replace Pr := hid (Pr.out.step b)
  replace Po := hid (Po.out.step b)
  replace PRR := hid (PRR.out.step b)
  replace PRT := hid (PRT.out.step b)
  replace G := hid (below_step G.out b)
  have lz46 := (show Below _ _ _ from b).size
  have Zp := hid m
  have Zq := hid m2
  have PP := hid p
  have PQ := hid q
  clear b p q m m2
  generalize wc = C1 at *
  have OP : Hid (0 < O) := by have := HK.out; have := HKO.out; unfold Hid; omega
  have ON : Hid (O ≠ 0) := by have := OP.out; unfold Hid; omega
  have FX : Hid (((R % O).natAbs : Int) < pw k) := by
    have := LO.out
    have := Int.emod_nonneg R ON.out
    have := Int.emod_lt_of_pos R OP.out
    unfold Hid
    omega
  have cr0 := Pr.out.c0
  have cr1 := Pr.out.c1
  have co0 := Po.out.c0
  have co1 := Po.out.c1
  go_wp2_with fail
  clear cr0 cr1 co0 co1
  refine (mod_z Zr.out Zo.out ON.out (by omega) (by omega)).mono ?_
  rintro e w47 ⟨r0, rfl, m0, b⟩
  obtain ⟨nx, xx, adx, qx, rfl, -, -, -, -, -⟩ := id m0
  replace Zb := hid (Zb.out.now b)
  replace Zr := hid (Zr.out.now b)
  replace Zo := hid (Zo.out.now b)
  replace Zp := hid (Zp.out.now b)
  replace Zq := hid (Zq.out.now b)
  replace Pb := hid (Pb.out.step b)
  replace Pr := hid (Pr.out.step b)
  replace Po := hid (Po.out.step b)
  replace PRR := hid (PRR.out.step b)
  replace PRT := hid (PRT.out.step b)
  replace PP := hid (PP.out.step b)
  replace PQ := hid (PQ.out.step b)
  replace G := hid (below_step G.out b)
  have lz48 := (show Below _ _ _ from b).size
  have Zx := hid m0
  clear b m0
  replace Zx := hid (Zx.out.fit FX.out)
  have cRR0 := PRR.out.c0
  have cRR1 := PRR.out.c1
  have fRR0 := PRR.out.fz 0
  have fRR1 := PRR.out.fz 1
  obtain ⟨V49, hW⟩ : ∃ V49, (w47.setCell ⟨w.heap.size + 1 + 1 + 1, 0, none⟩ (.bool nx)).setCell ⟨w.heap.size + 1 + 1 + 1, 1, none⟩ (.slice adx xx.length qx) = V49 := ⟨_, rfl⟩
  replace Zb := hid ((Zb.out).wk ((PRR.out).wk (.bool nx) (.slice adx xx.length qx)))
  replace Zr := hid ((Zr.out).wk ((PRR.out).wk (.bool nx) (.slice adx xx.length qx)))
  replace Zo := hid ((Zo.out).wk ((PRR.out).wk (.bool nx) (.slice adx xx.length qx)))
  replace Zp := hid ((Zp.out).wk ((PRR.out).wk (.bool nx) (.slice adx xx.length qx)))
  replace Zq := hid ((Zq.out).wk ((PRR.out).wk (.bool nx) (.slice adx xx.length qx)))
  replace Zx := hid ((Zx.out).box (PRR.out) (.bool nx) (.slice adx xx.length qx))
  replace Pb := hid ((Pb.out).box (b' := w.heap.size + 1 + 1 + 1) (by omega) (.bool nx) (.slice adx xx.length qx))
  replace Pr := hid ((Pr.out).box (b' := w.heap.size + 1 + 1 + 1) (by omega) (.bool nx) (.slice adx xx.length qx))
  replace Po := hid ((Po.out).box (b' := w.heap.size + 1 + 1 + 1) (by omega) (.bool nx) (.slice adx xx.length qx))
  replace PRR := hid ((PRR.out).set (.bool nx) (.slice adx xx.length qx))
  replace PRT := hid ((PRT.out).box (b' := w.heap.size + 1 + 1 + 1) (by omega) (.bool nx) (.slice adx xx.length qx))
  replace PP := hid ((PP.out).box (b' := w.heap.size + 1 + 1 + 1) (by omega) (.bool nx) (.slice adx xx.length qx))
  replace PQ := hid ((PQ.out).box (b' := w.heap.size + 1 + 1 + 1) (by omega) (.bool nx) (.slice adx xx.length qx))
  replace G : Hid (Below w.heap.size w (((w47.setCell ⟨w.heap.size + 1 + 1 + 1, 0, none⟩ (.bool nx)).setCell ⟨w.heap.size + 1 + 1 + 1, 1, none⟩ (.slice adx xx.length qx)))) := bset (bset (G.out) (by omega)) (by omega)
  have sz49 : V49.heap.size = w47.heap.size := by rw [← hW]; simp
  rw [hW] at Zb Zr Zo Zp Zq Zx Pb Pr Po PRR PRT PP PQ G
  skip
  have EW := hid hW
  clear hW
  go_wp2_with fail
  rw [EW.out]
  clear EW
  try clear cRR0 cRR1 fRR0 fRR1
  refine (of_z (n := 1) (by decide) (by decide) _).mono ?_
  rintro e w50 ⟨r0, rfl, m0, b⟩
  obtain ⟨ny, xy, ady, qy, rfl, -, -, -, -, -⟩ := id m0
  replace Zb := hid (Zb.out.now b)
  replace Zr := hid (Zr.out.now b)
  replace Zo := hid (Zo.out.now b)
  replace Zp := hid (Zp.out.now b)
  replace Zq := hid (Zq.out.now b)
  replace Zx := hid (Zx.out.now b)
  replace Pb := hid (Pb.out.step b)
  replace Pr := hid (Pr.out.step b)
  replace Po := hid (Po.out.step b)
  replace PRR := hid (PRR.out.step b)
  replace PRT := hid (PRT.out.step b)
  replace PP := hid (PP.out.step b)
  replace PQ := hid (PQ.out.step b)
  replace G := hid (below_step G.out b)
  have lz51 := (show Below _ _ _ from b).size
  have Zy := hid m0
  clear b m0
  clear Zr
  clear Zo
  clear Pr
  clear Po
  have cRT0 := PRT.out.c0
  have cRT1 := PRT.out.c1
  have fRT0 := PRT.out.fz 0
  have fRT1 := PRT.out.fz 1
  obtain ⟨V52, hW⟩ : ∃ V52, (w50.setCell ⟨w.heap.size + 1 + 1 + 1 + 1, 0, none⟩ (.bool ny)).setCell ⟨w.heap.size + 1 + 1 + 1 + 1, 1, none⟩ (.slice ady xy.length qy) = V52 := ⟨_, rfl⟩
  replace Zb := hid ((Zb.out).wk ((PRT.out).wk (.bool ny) (.slice ady xy.length qy)))
  replace Zp := hid ((Zp.out).wk ((PRT.out).wk (.bool ny) (.slice ady xy.length qy)))
  replace Zq := hid ((Zq.out).wk ((PRT.out).wk (.bool ny) (.slice ady xy.length qy)))
  replace Zx := hid ((Zx.out).box (PRT.out) (.bool ny) (.slice ady xy.length qy))
  replace Zy := hid ((Zy.out).box (PRT.out) (.bool ny) (.slice ady xy.length qy))
  replace Pb := hid ((Pb.out).box (b' := w.heap.size + 1 + 1 + 1 + 1) (by omega) (.bool ny) (.slice ady xy.length qy))
  replace PRR := hid ((PRR.out).box (b' := w.heap.size + 1 + 1 + 1 + 1) (by omega) (.bool ny) (.slice ady xy.length qy))
  replace PRT := hid ((PRT.out).set (.bool ny) (.slice ady xy.length qy))
  replace PP := hid ((PP.out).box (b' := w.heap.size + 1 + 1 + 1 + 1) (by omega) (.bool ny) (.slice ady xy.length qy))
  replace PQ := hid ((PQ.out).box (b' := w.heap.size + 1 + 1 + 1 + 1) (by omega) (.bool ny) (.slice ady xy.length qy))
  replace G : Hid (Below w.heap.size w (((w50.setCell ⟨w.heap.size + 1 + 1 + 1 + 1, 0, none⟩ (.bool ny)).setCell ⟨w.heap.size + 1 + 1 + 1 + 1, 1, none⟩ (.slice ady xy.length qy)))) := bset (bset (G.out) (by omega)) (by omega)
  have sz52 : V52.heap.size = w50.heap.size := by rw [← hW]; simp
  rw [hW] at Zb Zp Zq Zx Zy Pb PRR PRT PP PQ G
  have H0 : Hid (FiH w O R KB k bk8 bk9 (R % O).natAbs V52) := ⟨O, R % O, 0, 1, 1, _, _, _, _, _, _, _, _, _, _, Eu.first OP.out HKO.out, rfl, Pb.out, PRR.out, PRT.out, PP.out, PQ.out, Zb.out, Zx.out.zi, Zy.out.zi.more h1, Zp.out, Zq.out, G.out⟩
  clear Pb PRR PRT PP PQ Zb Zx Zy Zp Zq G
  have EW := hid hW
  clear hW
  go_wp2_with fail
  rw [EW.out]
  clear EW
  clear cRT0 cRT1 fRT0 fRT1
  go_loopg [25] (R % O).natAbs (fun g s25 wx => FiH w O R KB k bk8 bk9 g wx)
  case atStart => exact H0.out
  case round =>
    clear H0
    obtain ⟨zp, zx, zq, zt, zs, b0, b1, x0, x1, t0, t1, p0, p1, q0, q1, hE, hg, pb, px, pt, pp, pq, ib, ix, it, ip, iq, hG⟩ := hrel
    obtain ⟨nb, xb, adb, cb, rfl, rfl⟩ := ib.comp
    have Zb := hid ib
    clear ib
    obtain ⟨nx, xx, adx, cx, rfl, rfl⟩ := ix.comp
    have Zx := hid ix
    clear ix
    obtain ⟨nt, xt, adt, ct, rfl, rfl⟩ := it.comp
    have Zt := hid it
    clear it
    obtain ⟨np, xp, adp, cp, rfl, rfl⟩ := ip.comp
    have Zp := hid ip
    clear ip
    obtain ⟨nq, xq, adq, cq, rfl, rfl⟩ := iq.comp
    have Zq := hid iq
    clear iq
    have Pb := hid pb
    clear pb
    have PRR := hid px
    clear px
    have PRT := hid pt
    clear pt
    have PP := hid pp
    clear pp
    have PQ := hid pq
    clear pq
    have l8 := PP.out.blk
    have l9 := PQ.out.blk
    have G := hid hG
    clear hG
    have HE := hid hE
    clear hE
    have HG := hid hg
    clear hg
    by_cases hz : zx ≤ KB
    · skip
      have HZ := hid hz
      have hc : ¬ 0 < cmpI zx KB := by rcases cmp_cases zx KB with ⟨_, h⟩ | ⟨_, h⟩ | ⟨_, h⟩ <;> omega
      have HS : Hid (∀ w' v u, Zi w' v zx k → Zi w' u KB k → _) := fun (w' : World) (v u : Value) (h : Zi w' v zx k) (h' : Zi w' u KB k) => cmp_z h h'
      generalize cmpI zx KB = C at *
      clear hz
      have cRR0 := PRR.out.c0
      have cRR1 := PRR.out.c1
      have cb0 := Pb.out.c0
      have cb1 := Pb.out.c1
      go_wp2_with fail
      clear cRR0 cRR1 cb0 cb1
      refine (HS.out _ _ _ Zx.out Zb.out).mono ?_
      rintro e w53 ⟨rfl, b⟩
      replace Zb := hid (Zb.out.now b)
      replace Zx := hid (Zx.out.now b)
      replace Zt := hid (Zt.out.now b)
      replace Zp := hid (Zp.out.now b)
      replace Zq := hid (Zq.out.now b)
      replace Pb := hid (Pb.out.step b)
      replace PRR := hid (PRR.out.step b)
      replace PRT := hid (PRT.out.step b)
      replace PP := hid (PP.out.step b)
      replace PQ := hid (PQ.out.step b)
      replace G := hid (below_step G.out b)
      have lz54 := (show Below _ _ _ from b).size
      clear b 
      go_wp2_with fail
      refine wp_region_tail (fun w' => w'.cell? ⟨w.heap.size + 1 + 1 + 1, 0, none⟩ = some (.bool nx) ∧ w'.cell? ⟨w.heap.size + 1 + 1 + 1, 1, none⟩ = some (.slice adx xx.length cx) ∧ w'.cell? ⟨w.heap.size + 1 + 1 + 1 + 1, 0, none⟩ = some (.bool nt) ∧ w'.cell? ⟨w.heap.size + 1 + 1 + 1 + 1, 1, none⟩ = some (.slice adt xt.length ct)) 3 (by kernel_rfl) ?_
      obtain ⟨D55, hD⟩ : ∃ D55, w53.drew = D55 := ⟨_, rfl⟩
      have b : Below w53.heap.size w53 D55 := by rw [← hD]; exact (Below.refl _ _).drew
      rw [hD]
      clear hD
      replace Zb := hid (Zb.out.now b)
      replace Zx := hid (Zx.out.now b)
      replace Zt := hid (Zt.out.now b)
      replace Zp := hid (Zp.out.now b)
      replace Zq := hid (Zq.out.now b)
      replace Pb := hid (Pb.out.step b)
      replace PRR := hid (PRR.out.step b)
      replace PRT := hid (PRT.out.step b)
      replace PP := hid (PP.out.step b)
      replace PQ := hid (PQ.out.step b)
      replace G := hid (below_step G.out b)
      have lz56 := (show Below _ _ _ from b).size
      clear b
      refine wpAnyT_take (i := 0) (oi := { dst := some 41, op := Op.load 24 (Operand.tmp 6), type := 24, pos := "recover.go:44", after := #[], guard := none }) (v := (.agg #[(.bool nx), (.slice adx xx.length cx)])) rfl (by kernel_rfl) (fun _ _ _ h => h) (Or.inl ⟨by rfl, ?_⟩) ⟨PRR.out.c0, PRR.out.c1, PRT.out.c0, PRT.out.c1⟩ ?_
      · intro w hSw
        (try dsimp only at hSw)
        go_simp
      simp only [Act.put, List.setIfInBounds_toArray, List.set_cons_zero, List.set_cons_succ]
      refine wpAnyT_take (i := 1) (oi := { dst := some 42, op := Op.load 24 (Operand.tmp 7), type := 24, pos := "recover.go:44", after := #[{ on := 2, ground := Ground.gcOnly Departure.lateStores }], guard := none }) (v := (.agg #[(.bool nt), (.slice adt xt.length ct)])) rfl (by kernel_rfl) (fun _ _ _ h => h) (Or.inl ⟨by rfl, ?_⟩) ⟨PRR.out.c0, PRR.out.c1, PRT.out.c0, PRT.out.c1⟩ ?_
      · intro w hSw
        (try dsimp only at hSw)
        go_simp
      simp only [Act.put, List.setIfInBounds_toArray, List.set_cons_zero, List.set_cons_succ]
      refine wpAnyT_one (i := 2) (o := { dst := none, op := Op.store 24 (Operand.tmp 6) (Operand.tmp 41), type := 0, pos := "recover.go:44", after := #[{ on := 0, ground := Ground.data }, { on := 0, ground := Ground.phase }, { on := 1, ground := Ground.textOnly Departure.lateStores }], guard := none }) (by kernel_rfl) rfl (fun K hK => ?_)
      have cRR0 := PRR.out.c0
      have cRR1 := PRR.out.c1
      have fRR0 := PRR.out.fz 0
      have fRR1 := PRR.out.fz 1
      go_simp
      clear cRR0 cRR1 fRR0 fRR1
      obtain ⟨V57, hW⟩ : ∃ V57, (D55.setCell ⟨w.heap.size + 1 + 1 + 1, 0, none⟩ (.bool nx)).setCell ⟨w.heap.size + 1 + 1 + 1, 1, none⟩ (.slice adx xx.length cx) = V57 := ⟨_, rfl⟩
      replace Zb := hid ((Zb.out).wk ((PRR.out).wk (.bool nx) (.slice adx xx.length cx)))
      replace Zx := hid ((Zx.out).wk ((PRR.out).wk (.bool nx) (.slice adx xx.length cx)))
      replace Zt := hid ((Zt.out).wk ((PRR.out).wk (.bool nx) (.slice adx xx.length cx)))
      replace Zp := hid ((Zp.out).wk ((PRR.out).wk (.bool nx) (.slice adx xx.length cx)))
      replace Zq := hid ((Zq.out).wk ((PRR.out).wk (.bool nx) (.slice adx xx.length cx)))
      replace Pb := hid ((Pb.out).box (b' := w.heap.size + 1 + 1 + 1) (by omega) (.bool nx) (.slice adx xx.length cx))
      replace PRR := hid ((PRR.out).set (.bool nx) (.slice adx xx.length cx))
      replace PRT := hid ((PRT.out).box (b' := w.heap.size + 1 + 1 + 1) (by omega) (.bool nx) (.slice adx xx.length cx))
      replace PP := hid ((PP.out).box (b' := w.heap.size + 1 + 1 + 1) (by omega) (.bool nx) (.slice adx xx.length cx))
      replace PQ := hid ((PQ.out).box (b' := w.heap.size + 1 + 1 + 1) (by omega) (.bool nx) (.slice adx xx.length cx))
      replace G : Hid (Below w.heap.size w (((D55.setCell ⟨w.heap.size + 1 + 1 + 1, 0, none⟩ (.bool nx)).setCell ⟨w.heap.size + 1 + 1 + 1, 1, none⟩ (.slice adx xx.length cx)))) := bset (bset (G.out) (by omega)) (by omega)
      have sz57 : V57.heap.size = D55.heap.size := by rw [← hW]; simp
      rw [hW] at Zb Zx Zt Zp Zq Pb PRR PRT PP PQ G
      rw [hW]
      clear hW
      refine hK.out _ _ (fun _ => ⟨PRR.out.c0, PRR.out.c1, PRT.out.c0, PRT.out.c1⟩) ?_
      clear hK
      try simp only [Act.put]
      refine wpAnyT_one (i := 3) (o := { dst := none, op := Op.store 24 (Operand.tmp 7) (Operand.tmp 42), type := 0, pos := "recover.go:44", after := #[{ on := 1, ground := Ground.data }, { on := 2, ground := Ground.chain }, { on := 0, ground := Ground.phase }, { on := 1, ground := Ground.phase }, { on := 2, ground := Ground.phase }], guard := none }) (by kernel_rfl) rfl (fun K hK => ?_)
      have cRT0 := PRT.out.c0
      have cRT1 := PRT.out.c1
      have fRT0 := PRT.out.fz 0
      have fRT1 := PRT.out.fz 1
      go_simp
      clear cRT0 cRT1 fRT0 fRT1
      obtain ⟨V58, hW⟩ : ∃ V58, (V57.setCell ⟨w.heap.size + 1 + 1 + 1 + 1, 0, none⟩ (.bool nt)).setCell ⟨w.heap.size + 1 + 1 + 1 + 1, 1, none⟩ (.slice adt xt.length ct) = V58 := ⟨_, rfl⟩
      replace Zb := hid ((Zb.out).wk ((PRT.out).wk (.bool nt) (.slice adt xt.length ct)))
      replace Zx := hid ((Zx.out).wk ((PRT.out).wk (.bool nt) (.slice adt xt.length ct)))
      replace Zt := hid ((Zt.out).wk ((PRT.out).wk (.bool nt) (.slice adt xt.length ct)))
      replace Zp := hid ((Zp.out).wk ((PRT.out).wk (.bool nt) (.slice adt xt.length ct)))
      replace Zq := hid ((Zq.out).wk ((PRT.out).wk (.bool nt) (.slice adt xt.length ct)))
      replace Pb := hid ((Pb.out).box (b' := w.heap.size + 1 + 1 + 1 + 1) (by omega) (.bool nt) (.slice adt xt.length ct))
      replace PRR := hid ((PRR.out).box (b' := w.heap.size + 1 + 1 + 1 + 1) (by omega) (.bool nt) (.slice adt xt.length ct))
      replace PRT := hid ((PRT.out).set (.bool nt) (.slice adt xt.length ct))
      replace PP := hid ((PP.out).box (b' := w.heap.size + 1 + 1 + 1 + 1) (by omega) (.bool nt) (.slice adt xt.length ct))
      replace PQ := hid ((PQ.out).box (b' := w.heap.size + 1 + 1 + 1 + 1) (by omega) (.bool nt) (.slice adt xt.length ct))
      replace G : Hid (Below w.heap.size w (((V57.setCell ⟨w.heap.size + 1 + 1 + 1 + 1, 0, none⟩ (.bool nt)).setCell ⟨w.heap.size + 1 + 1 + 1 + 1, 1, none⟩ (.slice adt xt.length ct)))) := bset (bset (G.out) (by omega)) (by omega)
      have sz58 : V58.heap.size = V57.heap.size := by rw [← hW]; simp
      rw [hW] at Zb Zx Zt Zp Zq Pb PRR PRT PP PQ G
      rw [hW]
      clear hW
      refine hK.out _ _ (fun h => absurd h (by decide)) ?_
      clear hK
      try simp only [Act.put]
      refine wpAnyT_done (by kernel_rfl) ?_ _
      go_wp2
      exact bodyPost_ret (zbackp Try.results56 PRR.out PRT.out _ (by rfl) (by rfl)) rfl ⟨_, _, _, _, _, _, _, HE.out, HZ.out, rfl, Zx.out, Zt.out, G.out⟩
    · skip
      have hc : 0 < cmpI zx KB := by rw [cmpI_gt (by omega)]; decide
      have HST := hid (HE.out.next HK.out (by omega))
      have HNZ : Hid (zx ≠ 0) := by have := HK.out; unfold Hid; omega
      have HS : Hid (∀ w' v u, Zi w' v zx k → Zi w' u KB k → _) := fun (w' : World) (v u : Value) (h : Zi w' v zx k) (h' : Zi w' u KB k) => cmp_z h h'
      have FT : Hid (((zq - zp.tdiv zx * zt).natAbs : Int) < pw k) := by
        have := (HST.out.small HK.out).1
        have := LO.out
        unfold Hid
        omega
      have HM : Hid ((zp.tmod zx).natAbs < gk) := by
        have h1 := HST.out.r0
        have h2 := HST.out.lt
        unfold Hid
        rw [HG.out]
        omega
      generalize cmpI zx KB = C at *
      clear HE HG hz
      have cRR0 := PRR.out.c0
      have cRR1 := PRR.out.c1
      have cb0 := Pb.out.c0
      have cb1 := Pb.out.c1
      go_wp2_with fail
      clear cRR0 cRR1 cb0 cb1
      refine (HS.out _ _ _ Zx.out Zb.out).mono ?_
      rintro e w53 ⟨rfl, b⟩
      replace Zb := hid (Zb.out.now b)
      replace Zx := hid (Zx.out.now b)
      replace Zt := hid (Zt.out.now b)
      replace Zp := hid (Zp.out.now b)
      replace Zq := hid (Zq.out.now b)
      replace Pb := hid (Pb.out.step b)
      replace PRR := hid (PRR.out.step b)
      replace PRT := hid (PRT.out.step b)
      replace PP := hid (PP.out.step b)
      replace PQ := hid (PQ.out.step b)
      replace G := hid (below_step G.out b)
      have lz54 := (show Below _ _ _ from b).size
      clear b 
      clear HS
      have cP0 := PP.out.c0
      have cP1 := PP.out.c1
      have cRR0 := PRR.out.c0
      have cRR1 := PRR.out.c1
      go_wp2_with fail
      clear cP0 cP1 cRR0 cRR1
      refine (trunc_z Zp.out Zx.out HNZ.out (by omega) (by omega)).mono ?_
      rintro e w55 ⟨r0, r1, rfl, m0, m1, b⟩
      obtain ⟨nu, xu, adu, qu, rfl, -, -, -, -, -⟩ := id m0
      obtain ⟨nv, xv, adv, qv, rfl, -, -, -, -, -⟩ := id m1
      replace Zb := hid (Zb.out.now b)
      replace Zx := hid (Zx.out.now b)
      replace Zt := hid (Zt.out.now b)
      replace Zp := hid (Zp.out.now b)
      replace Zq := hid (Zq.out.now b)
      replace Pb := hid (Pb.out.step b)
      replace PRR := hid (PRR.out.step b)
      replace PRT := hid (PRT.out.step b)
      replace PP := hid (PP.out.step b)
      replace PQ := hid (PQ.out.step b)
      replace G := hid (below_step G.out b)
      have lz56 := (show Below _ _ _ from b).size
      have Zu := hid m0
      have Zv := hid m1
      clear b m0 m1
      obtain ⟨V57, hW⟩ : ∃ V57, (w55.alloc (duo (.bool nu) (.slice adu xu.length qu))).alloc (duo (.bool nv) (.slice adv xv.length qv)) = V57 := ⟨_, rfl⟩
      obtain ⟨kW, sz57⟩ := alloc2 w55 (duo (.bool nu) (.slice adu xu.length qu)) (duo (.bool nv) (.slice adv xv.length qv))
      rw [hW] at kW sz57
      replace Zb := hid (Zb.out.now kW)
      replace Zx := hid (Zx.out.now kW)
      replace Zt := hid (Zt.out.now kW)
      replace Zp := hid (Zp.out.now kW)
      replace Zq := hid (Zq.out.now kW)
      replace Zu := hid (Zu.out.now kW)
      replace Zv := hid (Zv.out.now kW)
      replace Pb := hid (Pb.out.step kW)
      replace PRR := hid (PRR.out.step kW)
      replace PRT := hid (PRT.out.step kW)
      replace PP := hid (PP.out.step kW)
      replace PQ := hid (PQ.out.step kW)
      replace G := hid (below_step G.out kW)
      have lz58 := (show Below _ _ _ from kW).size
      have Pu : Hid (Duo V57 (w55.heap.size) (.bool nu) (.slice adu xu.length qu)) := by unfold Hid; rw [← hW]; exact duo_late (duo_at (by simp)) _
      have Pv : Hid (Duo V57 (w55.heap.size + 1) (.bool nv) (.slice adv xv.length qv)) := by unfold Hid; rw [← hW]; exact duo_at (by simp)
      clear kW
      have EW := hid hW
      clear hW
      go_wp2_with fail
      rw [EW.out]
      clear EW
      replace Zu := hid Zu.out.zi
      replace Zv := hid Zv.out.zi
      refine wp_region_tail (fun w' => w'.cell? ⟨w.heap.size + 1 + 1 + 1, 0, none⟩ = some (.bool nx) ∧ w'.cell? ⟨w.heap.size + 1 + 1 + 1, 1, none⟩ = some (.slice adx xx.length cx) ∧ w'.cell? ⟨w55.heap.size + 1, 0, none⟩ = some (.bool nv) ∧ w'.cell? ⟨w55.heap.size + 1, 1, none⟩ = some (.slice adv xv.length qv)) 3 (by kernel_rfl) ?_
      obtain ⟨D59, hD⟩ : ∃ D59, V57.drew = D59 := ⟨_, rfl⟩
      have b : Below V57.heap.size V57 D59 := by rw [← hD]; exact (Below.refl _ _).drew
      rw [hD]
      clear hD
      replace Zb := hid (Zb.out.now b)
      replace Zx := hid (Zx.out.now b)
      replace Zt := hid (Zt.out.now b)
      replace Zp := hid (Zp.out.now b)
      replace Zq := hid (Zq.out.now b)
      replace Zu := hid (Zu.out.now b)
      replace Zv := hid (Zv.out.now b)
      replace Pb := hid (Pb.out.step b)
      replace PRR := hid (PRR.out.step b)
      replace PRT := hid (PRT.out.step b)
      replace PP := hid (PP.out.step b)
      replace PQ := hid (PQ.out.step b)
      replace Pu := hid (Pu.out.step b)
      replace Pv := hid (Pv.out.step b)
      replace G := hid (below_step G.out b)
      have lz60 := (show Below _ _ _ from b).size
      clear b
      refine wpAnyT_take (i := 0) (oi := { dst := some 33, op := Op.load 24 (Operand.tmp 6), type := 24, pos := "recover.go:41", after := #[], guard := none }) (v := (.agg #[(.bool nx), (.slice adx xx.length cx)])) rfl (by kernel_rfl) (fun _ _ _ h => h) (Or.inl ⟨by rfl, ?_⟩) ⟨PRR.out.c0, PRR.out.c1, Pv.out.c0, Pv.out.c1⟩ ?_
      · intro w hSw
        (try dsimp only at hSw)
        go_simp
      simp only [Act.put, List.setIfInBounds_toArray, List.set_cons_zero, List.set_cons_succ]
      refine wpAnyT_take (i := 1) (oi := { dst := some 34, op := Op.load 24 (Operand.tmp 11), type := 24, pos := "recover.go:41", after := #[{ on := 2, ground := Ground.gcOnly Departure.lateStores }], guard := none }) (v := (.agg #[(.bool nv), (.slice adv xv.length qv)])) rfl (by kernel_rfl) (fun _ _ _ h => h) (Or.inl ⟨by rfl, ?_⟩) ⟨PRR.out.c0, PRR.out.c1, Pv.out.c0, Pv.out.c1⟩ ?_
      · intro w hSw
        (try dsimp only at hSw)
        go_simp
      simp only [Act.put, List.setIfInBounds_toArray, List.set_cons_zero, List.set_cons_succ]
      refine wpAnyT_one (i := 2) (o := { dst := none, op := Op.store 24 (Operand.tmp 8) (Operand.tmp 33), type := 0, pos := "recover.go:41", after := #[{ on := 0, ground := Ground.data }, { on := 0, ground := Ground.phase }, { on := 1, ground := Ground.textOnly Departure.lateStores }], guard := none }) (by kernel_rfl) rfl (fun K hK => ?_)
      have cP0 := PP.out.c0
      have cP1 := PP.out.c1
      have fP0 := PP.out.fz 0
      have fP1 := PP.out.fz 1
      go_simp
      clear cP0 cP1 fP0 fP1
      obtain ⟨V61, hW⟩ : ∃ V61, (D59.setCell ⟨bk8, 0, none⟩ (.bool nx)).setCell ⟨bk8, 1, none⟩ (.slice adx xx.length cx) = V61 := ⟨_, rfl⟩
      replace Zb := hid ((Zb.out).wk ((PP.out).wk (.bool nx) (.slice adx xx.length cx)))
      replace Zx := hid ((Zx.out).wk ((PP.out).wk (.bool nx) (.slice adx xx.length cx)))
      replace Zt := hid ((Zt.out).wk ((PP.out).wk (.bool nx) (.slice adx xx.length cx)))
      replace Zp := hid ((Zp.out).wk ((PP.out).wk (.bool nx) (.slice adx xx.length cx)))
      replace Zq := hid ((Zq.out).wk ((PP.out).wk (.bool nx) (.slice adx xx.length cx)))
      replace Zu := hid ((Zu.out).wk ((PP.out).wk (.bool nx) (.slice adx xx.length cx)))
      replace Zv := hid ((Zv.out).wk ((PP.out).wk (.bool nx) (.slice adx xx.length cx)))
      replace Pb := hid ((Pb.out).box (b' := bk8) (by omega) (.bool nx) (.slice adx xx.length cx))
      replace PRR := hid ((PRR.out).box (b' := bk8) (by omega) (.bool nx) (.slice adx xx.length cx))
      replace PRT := hid ((PRT.out).box (b' := bk8) (by omega) (.bool nx) (.slice adx xx.length cx))
      replace PP := hid ((PP.out).set (.bool nx) (.slice adx xx.length cx))
      replace PQ := hid ((PQ.out).box (b' := bk8) (by omega) (.bool nx) (.slice adx xx.length cx))
      replace Pu := hid ((Pu.out).box (b' := bk8) (by omega) (.bool nx) (.slice adx xx.length cx))
      replace Pv := hid ((Pv.out).box (b' := bk8) (by omega) (.bool nx) (.slice adx xx.length cx))
      replace G : Hid (Below w.heap.size w (((D59.setCell ⟨bk8, 0, none⟩ (.bool nx)).setCell ⟨bk8, 1, none⟩ (.slice adx xx.length cx)))) := bset (bset (G.out) (by omega)) (by omega)
      have sz61 : V61.heap.size = D59.heap.size := by rw [← hW]; simp
      rw [hW] at Zb Zx Zt Zp Zq Zu Zv Pb PRR PRT PP PQ Pu Pv G
      rw [hW]
      clear hW
      refine hK.out _ _ (fun _ => ⟨PRR.out.c0, PRR.out.c1, Pv.out.c0, Pv.out.c1⟩) ?_
      clear hK
      try simp only [Act.put]
      refine wpAnyT_one (i := 3) (o := { dst := none, op := Op.store 24 (Operand.tmp 6) (Operand.tmp 34), type := 0, pos := "recover.go:41", after := #[{ on := 1, ground := Ground.data }, { on := 2, ground := Ground.chain }, { on := 0, ground := Ground.phase }, { on := 1, ground := Ground.phase }, { on := 2, ground := Ground.phase }], guard := none }) (by kernel_rfl) rfl (fun K hK => ?_)
      have cRR0 := PRR.out.c0
      have cRR1 := PRR.out.c1
      have fRR0 := PRR.out.fz 0
      have fRR1 := PRR.out.fz 1
      go_simp
      clear cRR0 cRR1 fRR0 fRR1
      obtain ⟨V62, hW⟩ : ∃ V62, (V61.setCell ⟨w.heap.size + 1 + 1 + 1, 0, none⟩ (.bool nv)).setCell ⟨w.heap.size + 1 + 1 + 1, 1, none⟩ (.slice adv xv.length qv) = V62 := ⟨_, rfl⟩
      replace Zb := hid ((Zb.out).wk ((PRR.out).wk (.bool nv) (.slice adv xv.length qv)))
      replace Zx := hid ((Zx.out).wk ((PRR.out).wk (.bool nv) (.slice adv xv.length qv)))
      replace Zt := hid ((Zt.out).wk ((PRR.out).wk (.bool nv) (.slice adv xv.length qv)))
      replace Zp := hid ((Zp.out).wk ((PRR.out).wk (.bool nv) (.slice adv xv.length qv)))
      replace Zq := hid ((Zq.out).wk ((PRR.out).wk (.bool nv) (.slice adv xv.length qv)))
      replace Zu := hid ((Zu.out).wk ((PRR.out).wk (.bool nv) (.slice adv xv.length qv)))
      replace Zv := hid ((Zv.out).wk ((PRR.out).wk (.bool nv) (.slice adv xv.length qv)))
      replace Pb := hid ((Pb.out).box (b' := w.heap.size + 1 + 1 + 1) (by omega) (.bool nv) (.slice adv xv.length qv))
      replace PRR := hid ((PRR.out).set (.bool nv) (.slice adv xv.length qv))
      replace PRT := hid ((PRT.out).box (b' := w.heap.size + 1 + 1 + 1) (by omega) (.bool nv) (.slice adv xv.length qv))
      replace PP := hid ((PP.out).box (b' := w.heap.size + 1 + 1 + 1) (by omega) (.bool nv) (.slice adv xv.length qv))
      replace PQ := hid ((PQ.out).box (b' := w.heap.size + 1 + 1 + 1) (by omega) (.bool nv) (.slice adv xv.length qv))
      replace Pu := hid ((Pu.out).box (b' := w.heap.size + 1 + 1 + 1) (by omega) (.bool nv) (.slice adv xv.length qv))
      replace Pv := hid ((Pv.out).box (b' := w.heap.size + 1 + 1 + 1) (by omega) (.bool nv) (.slice adv xv.length qv))
      replace G : Hid (Below w.heap.size w (((V61.setCell ⟨w.heap.size + 1 + 1 + 1, 0, none⟩ (.bool nv)).setCell ⟨w.heap.size + 1 + 1 + 1, 1, none⟩ (.slice adv xv.length qv)))) := bset (bset (G.out) (by omega)) (by omega)
      have sz62 : V62.heap.size = V61.heap.size := by rw [← hW]; simp
      rw [hW] at Zb Zx Zt Zp Zq Zu Zv Pb PRR PRT PP PQ Pu Pv G
      rw [hW]
      clear hW
      refine hK.out _ _ (fun h => absurd h (by decide)) ?_
      clear hK
      try simp only [Act.put]
      refine wpAnyT_done (by kernel_rfl) ?_ _
      clear Zp
      go_wp2_with fail
      refine wp_region_tail (fun w' => w'.cell? ⟨w.heap.size + 1 + 1 + 1 + 1, 0, none⟩ = some (.bool nt) ∧ w'.cell? ⟨w.heap.size + 1 + 1 + 1 + 1, 1, none⟩ = some (.slice adt xt.length ct) ∧ w'.cell? ⟨bk9, 0, none⟩ = some (.bool nq) ∧ w'.cell? ⟨bk9, 1, none⟩ = some (.slice adq xq.length cq) ∧ w'.cell? ⟨w55.heap.size, 0, none⟩ = some (.bool nu) ∧ w'.cell? ⟨w55.heap.size, 1, none⟩ = some (.slice adu xu.length qu)) 6 (by kernel_rfl) ?_
      obtain ⟨D63, hD⟩ : ∃ D63, V62.drew = D63 := ⟨_, rfl⟩
      have b : Below V62.heap.size V62 D63 := by rw [← hD]; exact (Below.refl _ _).drew
      rw [hD]
      clear hD
      replace Zb := hid (Zb.out.now b)
      replace Zx := hid (Zx.out.now b)
      replace Zt := hid (Zt.out.now b)
      replace Zq := hid (Zq.out.now b)
      replace Zu := hid (Zu.out.now b)
      replace Zv := hid (Zv.out.now b)
      replace Pb := hid (Pb.out.step b)
      replace PRR := hid (PRR.out.step b)
      replace PRT := hid (PRT.out.step b)
      replace PP := hid (PP.out.step b)
      replace PQ := hid (PQ.out.step b)
      replace Pu := hid (Pu.out.step b)
      replace Pv := hid (Pv.out.step b)
      replace G := hid (below_step G.out b)
      have lz64 := (show Below _ _ _ from b).size
      clear b
      refine wpAnyT_take (i := 0) (oi := { dst := some 35, op := Op.load 24 (Operand.tmp 7), type := 24, pos := "recover.go:42", after := #[], guard := none }) (v := (.agg #[(.bool nt), (.slice adt xt.length ct)])) rfl (by kernel_rfl) (fun _ _ _ h => h) (Or.inl ⟨by rfl, ?_⟩) ⟨PRT.out.c0, PRT.out.c1, PQ.out.c0, PQ.out.c1, Pu.out.c0, Pu.out.c1⟩ ?_
      · intro w hSw
        (try dsimp only at hSw)
        go_simp
      simp only [Act.put, List.setIfInBounds_toArray, List.set_cons_zero, List.set_cons_succ]
      refine wpAnyT_take (i := 1) (oi := { dst := some 36, op := Op.load 24 (Operand.tmp 9), type := 24, pos := "recover.go:42", after := #[], guard := none }) (v := (.agg #[(.bool nq), (.slice adq xq.length cq)])) rfl (by kernel_rfl) (fun _ _ _ h => h) (Or.inl ⟨by rfl, ?_⟩) ⟨PRT.out.c0, PRT.out.c1, PQ.out.c0, PQ.out.c1, Pu.out.c0, Pu.out.c1⟩ ?_
      · intro w hSw
        (try dsimp only at hSw)
        go_simp
      simp only [Act.put, List.setIfInBounds_toArray, List.set_cons_zero, List.set_cons_succ]
      refine wpAnyT_take (i := 2) (oi := { dst := some 37, op := Op.load 24 (Operand.tmp 10), type := 24, pos := "recover.go:42", after := #[], guard := none }) (v := (.agg #[(.bool nu), (.slice adu xu.length qu)])) rfl (by kernel_rfl) (fun _ _ _ h => h) (Or.inl ⟨by rfl, ?_⟩) ⟨PRT.out.c0, PRT.out.c1, PQ.out.c0, PQ.out.c1, Pu.out.c0, Pu.out.c1⟩ ?_
      · intro w hSw
        (try dsimp only at hSw)
        go_simp
      simp only [Act.put, List.setIfInBounds_toArray, List.set_cons_zero, List.set_cons_succ]
      refine wpAnyT_take (i := 3) (oi := { dst := some 38, op := Op.load 24 (Operand.tmp 7), type := 24, pos := "recover.go:42", after := #[], guard := none }) (v := (.agg #[(.bool nt), (.slice adt xt.length ct)])) rfl (by kernel_rfl) (fun _ _ _ h => h) (Or.inl ⟨by rfl, ?_⟩) ⟨PRT.out.c0, PRT.out.c1, PQ.out.c0, PQ.out.c1, Pu.out.c0, Pu.out.c1⟩ ?_
      · intro w hSw
        (try dsimp only at hSw)
        go_simp
      simp only [Act.put, List.setIfInBounds_toArray, List.set_cons_zero, List.set_cons_succ]
      refine wpAnyT_one (i := 4) (o := { dst := some 39, op := Op.call { callee := Callee.value (Operand.func 16), args := #[Operand.tmp 37, Operand.tmp 38], argTypes := #[24, 24] }, type := 24, pos := "recover.go:42", after := #[{ on := 2, ground := Ground.data }, { on := 3, ground := Ground.data }], guard := none }) (by kernel_rfl) rfl (fun K hK => ?_)
      go_simp
      go_at_call 16
      refine (mul_z Zu.out Zt.out (by omega)).mono ?_
      rintro e w65 ⟨r0, rfl, m0, b⟩
      obtain ⟨nf, xf, adf, qf, rfl, -, -, -, -, -⟩ := id m0
      replace Zb := hid (Zb.out.now b)
      replace Zx := hid (Zx.out.now b)
      replace Zt := hid (Zt.out.now b)
      replace Zq := hid (Zq.out.now b)
      replace Zu := hid (Zu.out.now b)
      replace Zv := hid (Zv.out.now b)
      replace Pb := hid (Pb.out.step b)
      replace PRR := hid (PRR.out.step b)
      replace PRT := hid (PRT.out.step b)
      replace PP := hid (PP.out.step b)
      replace PQ := hid (PQ.out.step b)
      replace Pu := hid (Pu.out.step b)
      replace Pv := hid (Pv.out.step b)
      replace G := hid (below_step G.out b)
      have lz66 := (show Below _ _ _ from b).size
      have Zf := hid m0
      clear b m0
      refine hK.out _ _ (fun _ => ⟨PRT.out.c0, PRT.out.c1, PQ.out.c0, PQ.out.c1, Pu.out.c0, Pu.out.c1⟩) ?_
      clear hK
      refine wpAnyT_one (i := 5) (o := { dst := some 40, op := Op.call { callee := Callee.value (Operand.func 18), args := #[Operand.tmp 36, Operand.tmp 39], argTypes := #[24, 24] }, type := 24, pos := "recover.go:42", after := #[{ on := 1, ground := Ground.data }, { on := 4, ground := Ground.data }, { on := 4, ground := Ground.chain }], guard := none }) (by kernel_rfl) rfl (fun K hK => ?_)
      go_simp
      go_at_call 18
      refine (sub_z Zq.out Zf.out.zi (by omega) (by omega)).mono ?_
      rintro e w67 ⟨r0, rfl, m0, b⟩
      obtain ⟨ne, xe, ade, qe, rfl, -, -, -, -, -⟩ := id m0
      replace Zb := hid (Zb.out.now b)
      replace Zx := hid (Zx.out.now b)
      replace Zt := hid (Zt.out.now b)
      replace Zq := hid (Zq.out.now b)
      replace Zu := hid (Zu.out.now b)
      replace Zv := hid (Zv.out.now b)
      replace Zf := hid (Zf.out.now b)
      replace Pb := hid (Pb.out.step b)
      replace PRR := hid (PRR.out.step b)
      replace PRT := hid (PRT.out.step b)
      replace PP := hid (PP.out.step b)
      replace PQ := hid (PQ.out.step b)
      replace Pu := hid (Pu.out.step b)
      replace Pv := hid (Pv.out.step b)
      replace G := hid (below_step G.out b)
      have lz68 := (show Below _ _ _ from b).size
      have Ze := hid m0
      clear b m0
      replace Ze := hid (Ze.out.fit FT.out).zi
      refine hK.out _ _ (fun _ => ⟨PRT.out.c0, PRT.out.c1, PQ.out.c0, PQ.out.c1, Pu.out.c0, Pu.out.c1⟩) ?_
      clear hK
      refine wpAnyT_one (i := 6) (o := { dst := none, op := Op.store 24 (Operand.tmp 9) (Operand.tmp 35), type := 0, pos := "recover.go:42", after := #[{ on := 0, ground := Ground.data }, { on := 5, ground := Ground.chain }, { on := 0, ground := Ground.phase }, { on := 1, ground := Ground.phase }, { on := 2, ground := Ground.textOnly Departure.lateStores }, { on := 3, ground := Ground.textOnly Departure.lateStores }, { on := 4, ground := Ground.textOnly Departure.lateStoresUnsure }, { on := 5, ground := Ground.textOnly Departure.lateStoresUnsure }], guard := none }) (by kernel_rfl) rfl (fun K hK => ?_)
      have cQ0 := PQ.out.c0
      have cQ1 := PQ.out.c1
      have fQ0 := PQ.out.fz 0
      have fQ1 := PQ.out.fz 1
      go_simp
      clear cQ0 cQ1 fQ0 fQ1
      obtain ⟨V69, hW⟩ : ∃ V69, (w67.setCell ⟨bk9, 0, none⟩ (.bool nt)).setCell ⟨bk9, 1, none⟩ (.slice adt xt.length ct) = V69 := ⟨_, rfl⟩
      replace Zb := hid ((Zb.out).wk ((PQ.out).wk (.bool nt) (.slice adt xt.length ct)))
      replace Zx := hid ((Zx.out).wk ((PQ.out).wk (.bool nt) (.slice adt xt.length ct)))
      replace Zt := hid ((Zt.out).wk ((PQ.out).wk (.bool nt) (.slice adt xt.length ct)))
      replace Zq := hid ((Zq.out).wk ((PQ.out).wk (.bool nt) (.slice adt xt.length ct)))
      replace Zu := hid ((Zu.out).wk ((PQ.out).wk (.bool nt) (.slice adt xt.length ct)))
      replace Zv := hid ((Zv.out).wk ((PQ.out).wk (.bool nt) (.slice adt xt.length ct)))
      replace Zf := hid ((Zf.out).box (PQ.out) (.bool nt) (.slice adt xt.length ct))
      replace Ze := hid ((Ze.out).wk ((PQ.out).wk (.bool nt) (.slice adt xt.length ct)))
      replace Pb := hid ((Pb.out).box (b' := bk9) (by omega) (.bool nt) (.slice adt xt.length ct))
      replace PRR := hid ((PRR.out).box (b' := bk9) (by omega) (.bool nt) (.slice adt xt.length ct))
      replace PRT := hid ((PRT.out).box (b' := bk9) (by omega) (.bool nt) (.slice adt xt.length ct))
      replace PP := hid ((PP.out).box (b' := bk9) (by omega) (.bool nt) (.slice adt xt.length ct))
      replace PQ := hid ((PQ.out).set (.bool nt) (.slice adt xt.length ct))
      replace Pu := hid ((Pu.out).box (b' := bk9) (by omega) (.bool nt) (.slice adt xt.length ct))
      replace Pv := hid ((Pv.out).box (b' := bk9) (by omega) (.bool nt) (.slice adt xt.length ct))
      replace G : Hid (Below w.heap.size w (((w67.setCell ⟨bk9, 0, none⟩ (.bool nt)).setCell ⟨bk9, 1, none⟩ (.slice adt xt.length ct)))) := bset (bset (G.out) (by omega)) (by omega)
      have sz69 : V69.heap.size = w67.heap.size := by rw [← hW]; simp
      rw [hW] at Zb Zx Zt Zq Zu Zv Zf Ze Pb PRR PRT PP PQ Pu Pv G
      rw [hW]
      clear hW
      refine hK.out _ _ (fun h => absurd h (by decide)) ?_
      clear hK
      try simp only [Act.put]
      refine wpAnyT_one (i := 7) (o := { dst := none, op := Op.store 24 (Operand.tmp 7) (Operand.tmp 40), type := 0, pos := "recover.go:42", after := #[{ on := 5, ground := Ground.data }, { on := 6, ground := Ground.chain }, { on := 0, ground := Ground.phase }, { on := 1, ground := Ground.phase }, { on := 2, ground := Ground.phase }, { on := 3, ground := Ground.phase }, { on := 4, ground := Ground.phase }, { on := 5, ground := Ground.phase }, { on := 6, ground := Ground.phase }], guard := none }) (by kernel_rfl) rfl (fun K hK => ?_)
      have cRT0 := PRT.out.c0
      have cRT1 := PRT.out.c1
      have fRT0 := PRT.out.fz 0
      have fRT1 := PRT.out.fz 1
      go_simp
      clear cRT0 cRT1 fRT0 fRT1
      obtain ⟨V70, hW⟩ : ∃ V70, (V69.setCell ⟨w.heap.size + 1 + 1 + 1 + 1, 0, none⟩ (.bool ne)).setCell ⟨w.heap.size + 1 + 1 + 1 + 1, 1, none⟩ (.slice ade xe.length qe) = V70 := ⟨_, rfl⟩
      replace Zb := hid ((Zb.out).wk ((PRT.out).wk (.bool ne) (.slice ade xe.length qe)))
      replace Zx := hid ((Zx.out).wk ((PRT.out).wk (.bool ne) (.slice ade xe.length qe)))
      replace Zt := hid ((Zt.out).wk ((PRT.out).wk (.bool ne) (.slice ade xe.length qe)))
      replace Zq := hid ((Zq.out).wk ((PRT.out).wk (.bool ne) (.slice ade xe.length qe)))
      replace Zu := hid ((Zu.out).wk ((PRT.out).wk (.bool ne) (.slice ade xe.length qe)))
      replace Zv := hid ((Zv.out).wk ((PRT.out).wk (.bool ne) (.slice ade xe.length qe)))
      replace Zf := hid ((Zf.out).box (PRT.out) (.bool ne) (.slice ade xe.length qe))
      replace Ze := hid ((Ze.out).wk ((PRT.out).wk (.bool ne) (.slice ade xe.length qe)))
      replace Pb := hid ((Pb.out).box (b' := w.heap.size + 1 + 1 + 1 + 1) (by omega) (.bool ne) (.slice ade xe.length qe))
      replace PRR := hid ((PRR.out).box (b' := w.heap.size + 1 + 1 + 1 + 1) (by omega) (.bool ne) (.slice ade xe.length qe))
      replace PRT := hid ((PRT.out).set (.bool ne) (.slice ade xe.length qe))
      replace PP := hid ((PP.out).box (b' := w.heap.size + 1 + 1 + 1 + 1) (by omega) (.bool ne) (.slice ade xe.length qe))
      replace PQ := hid ((PQ.out).box (b' := w.heap.size + 1 + 1 + 1 + 1) (by omega) (.bool ne) (.slice ade xe.length qe))
      replace Pu := hid ((Pu.out).box (b' := w.heap.size + 1 + 1 + 1 + 1) (by omega) (.bool ne) (.slice ade xe.length qe))
      replace Pv := hid ((Pv.out).box (b' := w.heap.size + 1 + 1 + 1 + 1) (by omega) (.bool ne) (.slice ade xe.length qe))
      replace G : Hid (Below w.heap.size w (((V69.setCell ⟨w.heap.size + 1 + 1 + 1 + 1, 0, none⟩ (.bool ne)).setCell ⟨w.heap.size + 1 + 1 + 1 + 1, 1, none⟩ (.slice ade xe.length qe)))) := bset (bset (G.out) (by omega)) (by omega)
      have sz70 : V70.heap.size = V69.heap.size := by rw [← hW]; simp
      rw [hW] at Zb Zx Zt Zq Zu Zv Zf Ze Pb PRR PRT PP PQ Pu Pv G
      rw [hW]
      clear hW
      refine hK.out _ _ (fun h => absurd h (by decide)) ?_
      clear hK
      try simp only [Act.put]
      refine wpAnyT_done (by kernel_rfl) ?_ _
      have HN : Hid (FiH w O R KB k bk8 bk9 (zp.tmod zx).natAbs V70) := ⟨zx, zp.tmod zx, zt, _, _, _, _, _, _, _, _, _, _, _, _, HST.out, rfl, Pb.out, PRR.out, PRT.out, PP.out, PQ.out, Zb.out, Zv.out, Ze.out, Zx.out, Zt.out, G.out⟩
      clear HST
      go_wp2_with fail
      go_roundg (zp.tmod zx).natAbs
      case rel => exact HN.out
      case measure => exact HM.out

end Go.Proofs.Ytaoammmnpfbdfaa
