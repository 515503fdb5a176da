/-
  QLm6ToTailA: Lm6, CrtPure, TailA, joined.
-/
import Derived.Test.YtkikiddoiigbjaaQExt6
import Derived.Test.YtkikiddoiigbjaaQZModToZDivs
import Derived.Test.YtkikiddoiigbjaaQGcd6
import Derived.Test.YtkikiddoiigbjaaQZStoreToZFloor

/- Lm6 -/
namespace Go.Proofs.Ytkikiddoiigbjaa
open Go.RowKit
set_option linter.unusedVariables false

/-- The results that lie in two boxes. -/
theorem zbackp {f : Func} {s1 s2 : Nat} (hr : f.results = #[ResultVar.cell s1 25, ResultVar.cell s2 25]) {W : World} {b b' : Nat} {x y x' y' : Value} (h : Duo W b x y) (h' : Duo W b' x' y') (tmps : Array Value) (ht : tmps[s1]? = some (.pointer (some ⟨b, 0, none⟩))) (ht' : tmps[s2]? = some (.pointer (some ⟨b', 0, none⟩))) :
    (results f tmps).run Try.prog W = .ok (.tuple #[.agg #[x, y], .agg #[x', y']]) W := by
  simp [results, hr, go_sem, ht, ht', h.c0, h.c1, h'.c0, h'.c1]
/-- What leastMultiple answers. -/
def Lmed (w : World) (A B : Int) (k : Nat) (e : Ending) (w' : World) : Prop :=
  ∃ g x y rg rx, ExtV (A % B) B g x y ∧ e = .returned (.tuple #[rg, rx]) ∧ Zm w.heap.size w' rg g k ∧ Zm w.heap.size w' rx x k ∧ Below w.heap.size w w'
theorem mod_fit {A B : Int} {k : Nat} (hB : B ≠ 0) (h : (B.natAbs : Int) < pw k) : ((A % B).natAbs : Int) < pw k := by
  have h1 := Int.emod_nonneg A hB
  have h2 := Int.emod_lt A hB
  omega
theorem gcd_emod (A B : Int) : Int.gcd (A % B) B = Int.gcd A B := by
  have e : A % B = A - B * (A / B) := by have := Int.mul_ediv_add_emod A B; omega
  rw [e, Int.gcd_comm, Int.gcd_comm A B, show A - B * (A / B) = A + (-(A / B)) * B by grind]
  exact Int.gcd_add_mul_right_right ..
theorem zi_sign_no {w : World} {v : Value} {z : Int} {k : Nat} (h : Zi w v z k) (hz : z = 0) : Calls Try.prog 32 #[v] w fun e w' => e = .returned (.int .i64 0) ∧ Below w.heap.size w w' := by
  have q := sign_z h
  rw [hz, cmpI_self] at q
  exact q

set_option maxHeartbeats 6400000 in
set_option maxRecDepth 100000 in
theorem lm_z {w : World} {va vb : Value} {A B : Int} {k : Nat} (ha : Zi w va A k) (hb : Zi w vb B k) (h1 : 1 ≤ k) (hk : k ≤ 68719476736) (hB : B ≠ 0) :
    Calls Try.prog 54 #[va, vb] w (Lmed w A B k) := by
  have LB := hid (mod_fit (A := A) hB hb.lt)
  have HB := hid hB
  clear hB
  have za0 := ha
  obtain ⟨na, xa, ada, ca, rfl, -, -, -⟩ := ha
  have zb0 := hb
  obtain ⟨nb, xb, adb, cb, rfl, -, -, -⟩ := hb
  obtain ⟨W0, hW⟩ : ∃ W0, (((w.alloc (duo (.bool na) (.slice ada xa.length ca))).alloc (duo (.bool nb) (.slice adb xb.length cb))).alloc zbox).alloc zbox = W0 := ⟨_, rfl⟩
  obtain ⟨b0, sz0⟩ := alloc4 w (duo (.bool na) (.slice ada xa.length ca)) (duo (.bool nb) (.slice adb xb.length cb)) zbox zbox
  rw [hW] at b0 sz0
  have Pa : Hid (Duo W0 (w.heap.size) (.bool na) (.slice ada xa.length ca)) := by unfold Hid; rw [← hW]; exact duo_late (duo_late (duo_late (duo_at (by simp)) _) _) _
  have Pb : Hid (Duo W0 (w.heap.size + 1) (.bool nb) (.slice adb xb.length cb)) := by unfold Hid; rw [← hW]; exact duo_late (duo_late (duo_at (by simp)) _) _
  have PRG : Hid (Duo W0 (w.heap.size + 1 + 1) (.bool false) (.slice none 0 0)) := by unfold Hid; rw [← hW]; exact duo_late (duo_at (by simp)) _
  have PRX : Hid (Duo W0 (w.heap.size + 1 + 1 + 1) (.bool false) (.slice none 0 0)) := by unfold Hid; rw [← hW]; exact duo_at (by simp)
  have Za := hid (za0.now b0)
  clear za0
  have Zb := hid (zb0.now b0)
  clear zb0
  have G := hid b0
  clear b0
  have EW := hid hW
  clear hW
  go_enter Try.func54, Try.ntmps54
  have ca0 := Pa.out.c0
  have ca1 := Pa.out.c1
  have cb0 := Pb.out.c0
  have cb1 := Pb.out.c1
  rw [← EW.out] at ca0 ca1 cb0 cb1
  go_wp2_with fail
  rw [EW.out]
  clear EW
  clear ca0 ca1 cb0 cb1
  refine (mod_z Za.out Zb.out HB.out (by omega) (by omega)).mono ?_
  rintro e w1 ⟨r0, rfl, m0, b⟩
  obtain ⟨nr, xr, adr, qr, rfl, -, -, -, -, -⟩ := id m0
  replace m0 := m0.fit LB.out
  replace Za := hid (Za.out.now b)
  replace Zb := hid (Zb.out.now b)
  replace Pa := hid (Pa.out.step b)
  replace Pb := hid (Pb.out.step b)
  replace PRG := hid (PRG.out.step b)
  replace PRX := hid (PRX.out.step b)
  replace G := hid (below_step G.out b)
  have lz2 := (show Below _ _ _ from b).size
  have Zr := hid m0
  clear b m0
  obtain ⟨V3, hW⟩ : ∃ V3, w1.alloc (duo (.bool nr) (.slice adr xr.length qr)) = V3 := ⟨_, rfl⟩
  obtain ⟨kW, sz3⟩ := alloc1 w1 (duo (.bool nr) (.slice adr xr.length qr))
  rw [hW] at kW sz3
  replace Za := hid (Za.out.now kW)
  replace Zb := hid (Zb.out.now kW)
  replace Zr := hid (Zr.out.now kW)
  replace Pa := hid (Pa.out.step kW)
  replace Pb := hid (Pb.out.step kW)
  replace PRG := hid (PRG.out.step kW)
  replace PRX := hid (PRX.out.step kW)
  replace G := hid (below_step G.out kW)
  have lz4 := (show Below _ _ _ from kW).size
  have Pr : Hid (Duo V3 (w1.heap.size) (.bool nr) (.slice adr xr.length qr)) := by unfold Hid; rw [← hW]; exact duo_at (by simp)
  clear kW
  have cr0 := Pr.out.c0
  have cr1 := Pr.out.c1
  have cb0 := Pb.out.c0
  have cb1 := Pb.out.c1
  rw [← hW] at cr0 cr1 cb0 cb1
  have EW := hid hW
  clear hW
  go_wp2_with fail
  rw [EW.out]
  clear EW
  clear cr0 cr1 cb0 cb1
  refine (ext_z Zr.out.zi Zb.out h1 hk).mono ?_
  rintro e w5 ⟨zg, zx, zy, r0, r1, r2, hx, rfl, m0, m1, m2, b⟩
  obtain ⟨ng, xg, adg, qg, rfl, -, -, -, -, -⟩ := id m0
  obtain ⟨nx, xx, adx, qx, rfl, -, -, -, -, -⟩ := id m1
  obtain ⟨ny, xy, ady, qy, rfl, -, -, -, -, -⟩ := id m2
  have HX := hid hx
  clear hx
  replace Za := hid (Za.out.now b)
  replace Zb := hid (Zb.out.now b)
  replace Zr := hid (Zr.out.now b)
  replace Pa := hid (Pa.out.step b)
  replace Pb := hid (Pb.out.step b)
  replace PRG := hid (PRG.out.step b)
  replace PRX := hid (PRX.out.step b)
  replace Pr := hid (Pr.out.step b)
  replace G := hid (below_step G.out b)
  have lz6 := (show Below _ _ _ from b).size
  have Zg := hid m0
  have Zx := hid m1
  have Zy := hid m2
  clear b m0 m1 m2
  have cRG0 := PRG.out.c0
  have cRG1 := PRG.out.c1
  have cRX0 := PRX.out.c0
  have cRX1 := PRX.out.c1
  have fRG0 := PRG.out.fz 0
  have fRG1 := PRG.out.fz 1
  have fRX0 := PRX.out.fz 0
  have fRX1 := PRX.out.fz 1
  obtain ⟨V7, hW⟩ : ∃ V7, (((w5.setCell ⟨w.heap.size + 1 + 1, 0, none⟩ (.bool ng)).setCell ⟨w.heap.size + 1 + 1, 1, none⟩ (.slice adg xg.length qg)).setCell ⟨w.heap.size + 1 + 1 + 1, 0, none⟩ (.bool nx)).setCell ⟨w.heap.size + 1 + 1 + 1, 1, none⟩ (.slice adx xx.length qx) = V7 := ⟨_, rfl⟩
  replace Za := hid (((Za.out).wk ((PRG.out).wk (.bool ng) (.slice adg xg.length qg))).wk (((PRX.out).box (b' := w.heap.size + 1 + 1) (by omega) (.bool ng) (.slice adg xg.length qg)).wk (.bool nx) (.slice adx xx.length qx)))
  replace Zb := hid (((Zb.out).wk ((PRG.out).wk (.bool ng) (.slice adg xg.length qg))).wk (((PRX.out).box (b' := w.heap.size + 1 + 1) (by omega) (.bool ng) (.slice adg xg.length qg)).wk (.bool nx) (.slice adx xx.length qx)))
  replace Zr := hid (((Zr.out).box (PRG.out) (.bool ng) (.slice adg xg.length qg)).box ((PRX.out).box (b' := w.heap.size + 1 + 1) (by omega) (.bool ng) (.slice adg xg.length qg)) (.bool nx) (.slice adx xx.length qx))
  replace Zg := hid (((Zg.out).box (PRG.out) (.bool ng) (.slice adg xg.length qg)).box ((PRX.out).box (b' := w.heap.size + 1 + 1) (by omega) (.bool ng) (.slice adg xg.length qg)) (.bool nx) (.slice adx xx.length qx))
  replace Zx := hid (((Zx.out).box (PRG.out) (.bool ng) (.slice adg xg.length qg)).box ((PRX.out).box (b' := w.heap.size + 1 + 1) (by omega) (.bool ng) (.slice adg xg.length qg)) (.bool nx) (.slice adx xx.length qx))
  replace Zy := hid (((Zy.out).box (PRG.out) (.bool ng) (.slice adg xg.length qg)).box ((PRX.out).box (b' := w.heap.size + 1 + 1) (by omega) (.bool ng) (.slice adg xg.length qg)) (.bool nx) (.slice adx xx.length qx))
  replace Pa := hid (((Pa.out).box (b' := w.heap.size + 1 + 1) (by omega) (.bool ng) (.slice adg xg.length qg)).box (b' := w.heap.size + 1 + 1 + 1) (by omega) (.bool nx) (.slice adx xx.length qx))
  replace Pb := hid (((Pb.out).box (b' := w.heap.size + 1 + 1) (by omega) (.bool ng) (.slice adg xg.length qg)).box (b' := w.heap.size + 1 + 1 + 1) (by omega) (.bool nx) (.slice adx xx.length qx))
  replace PRG := hid (((PRG.out).set (.bool ng) (.slice adg xg.length qg)).box (b' := w.heap.size + 1 + 1 + 1) (by omega) (.bool nx) (.slice adx xx.length qx))
  replace PRX := hid (((PRX.out).box (b' := w.heap.size + 1 + 1) (by omega) (.bool ng) (.slice adg xg.length qg)).set (.bool nx) (.slice adx xx.length qx))
  replace Pr := hid (((Pr.out).box (b' := w.heap.size + 1 + 1) (by omega) (.bool ng) (.slice adg xg.length qg)).box (b' := w.heap.size + 1 + 1 + 1) (by omega) (.bool nx) (.slice adx xx.length qx))
  replace G : Hid (Below w.heap.size w (((((w5.setCell ⟨w.heap.size + 1 + 1, 0, none⟩ (.bool ng)).setCell ⟨w.heap.size + 1 + 1, 1, none⟩ (.slice adg xg.length qg)).setCell ⟨w.heap.size + 1 + 1 + 1, 0, none⟩ (.bool nx)).setCell ⟨w.heap.size + 1 + 1 + 1, 1, none⟩ (.slice adx xx.length qx)))) := bset (bset (bset (bset (G.out) (by omega)) (by omega)) (by omega)) (by omega)
  have sz7 : V7.heap.size = w5.heap.size := by rw [← hW]; simp
  rw [hW] at Za Zb Zr Zg Zx Zy Pa Pb PRG PRX Pr G
  have EW := hid hW
  clear hW
  go_wp2_with fail
  rw [EW.out]
  clear EW
  clear cRG0 cRG1 cRX0 cRX1 fRG0 fRG1 fRX0 fRX1
  refine wp_region_tail (fun w' => w'.cell? ⟨w.heap.size + 1 + 1, 0, none⟩ = some (.bool ng) ∧ w'.cell? ⟨w.heap.size + 1 + 1, 1, none⟩ = some (.slice adg xg.length qg) ∧ w'.cell? ⟨w.heap.size + 1 + 1 + 1, 0, none⟩ = some (.bool nx) ∧ w'.cell? ⟨w.heap.size + 1 + 1 + 1, 1, none⟩ = some (.slice adx xx.length qx)) 3 (by kernel_rfl) ?_
  obtain ⟨D8, hD⟩ : ∃ D8, V7.drew = D8 := ⟨_, rfl⟩
  have b : Below V7.heap.size V7 D8 := by rw [← hD]; exact (Below.refl _ _).drew
  rw [hD]
  clear hD
  replace Za := hid (Za.out.now b)
  replace Zb := hid (Zb.out.now b)
  replace Zr := hid (Zr.out.now b)
  replace Zg := hid (Zg.out.now b)
  replace Zx := hid (Zx.out.now b)
  replace Zy := hid (Zy.out.now b)
  replace Pa := hid (Pa.out.step b)
  replace Pb := hid (Pb.out.step b)
  replace PRG := hid (PRG.out.step b)
  replace PRX := hid (PRX.out.step b)
  replace Pr := hid (Pr.out.step b)
  replace G := hid (below_step G.out b)
  have lz9 := (show Below _ _ _ from b).size
  clear b
  refine wpAnyT_take (i := 0) (oi := { dst := some 21, op := Op.load 25 (Operand.tmp 4), type := 25, pos := "modulo.go:27", after := #[], guard := none }) (v := (.agg #[(.bool ng), (.slice adg xg.length qg)])) rfl (by kernel_rfl) (fun _ _ _ h => h) (Or.inl ⟨by rfl, ?_⟩) ⟨PRG.out.c0, PRG.out.c1, PRX.out.c0, PRX.out.c1⟩ ?_
  · intro w hSw
    (try dsimp only at hSw)
    go_simp
  simp only [Act.put, List.setIfInBounds_toArray, List.set_cons_zero, List.set_cons_succ]
  refine wpAnyT_take (i := 1) (oi := { dst := some 22, op := Op.load 25 (Operand.tmp 5), type := 25, pos := "modulo.go:27", after := #[{ on := 2, ground := Ground.gcOnly Departure.lateStores }], guard := none }) (v := (.agg #[(.bool nx), (.slice adx xx.length qx)])) rfl (by kernel_rfl) (fun _ _ _ h => h) (Or.inl ⟨by rfl, ?_⟩) ⟨PRG.out.c0, PRG.out.c1, PRX.out.c0, PRX.out.c1⟩ ?_
  · intro w hSw
    (try dsimp only at hSw)
    go_simp
  simp only [Act.put, List.setIfInBounds_toArray, List.set_cons_zero, List.set_cons_succ]
  refine wpAnyT_one (i := 2) (o := { dst := none, op := Op.store 25 (Operand.tmp 4) (Operand.tmp 21), type := 0, pos := "modulo.go:27", after := #[{ on := 0, ground := Ground.data }, { on := 0, ground := Ground.phase }, { on := 1, ground := Ground.textOnly Departure.lateStores }], guard := none }) (by kernel_rfl) rfl (fun K hK => ?_)
  have cRG0 := PRG.out.c0
  have cRG1 := PRG.out.c1
  have fRG0 := PRG.out.fz 0
  have fRG1 := PRG.out.fz 1
  go_simp
  clear cRG0 cRG1 fRG0 fRG1
  obtain ⟨V10, hW⟩ : ∃ V10, (D8.setCell ⟨w.heap.size + 1 + 1, 0, none⟩ (.bool ng)).setCell ⟨w.heap.size + 1 + 1, 1, none⟩ (.slice adg xg.length qg) = V10 := ⟨_, rfl⟩
  replace Za := hid ((Za.out).wk ((PRG.out).wk (.bool ng) (.slice adg xg.length qg)))
  replace Zb := hid ((Zb.out).wk ((PRG.out).wk (.bool ng) (.slice adg xg.length qg)))
  replace Zr := hid ((Zr.out).box (PRG.out) (.bool ng) (.slice adg xg.length qg))
  replace Zg := hid ((Zg.out).box (PRG.out) (.bool ng) (.slice adg xg.length qg))
  replace Zx := hid ((Zx.out).box (PRG.out) (.bool ng) (.slice adg xg.length qg))
  replace Zy := hid ((Zy.out).box (PRG.out) (.bool ng) (.slice adg xg.length qg))
  replace Pa := hid ((Pa.out).box (b' := w.heap.size + 1 + 1) (by omega) (.bool ng) (.slice adg xg.length qg))
  replace Pb := hid ((Pb.out).box (b' := w.heap.size + 1 + 1) (by omega) (.bool ng) (.slice adg xg.length qg))
  replace PRG := hid ((PRG.out).set (.bool ng) (.slice adg xg.length qg))
  replace PRX := hid ((PRX.out).box (b' := w.heap.size + 1 + 1) (by omega) (.bool ng) (.slice adg xg.length qg))
  replace Pr := hid ((Pr.out).box (b' := w.heap.size + 1 + 1) (by omega) (.bool ng) (.slice adg xg.length qg))
  replace G : Hid (Below w.heap.size w (((D8.setCell ⟨w.heap.size + 1 + 1, 0, none⟩ (.bool ng)).setCell ⟨w.heap.size + 1 + 1, 1, none⟩ (.slice adg xg.length qg)))) := bset (bset (G.out) (by omega)) (by omega)
  have sz10 : V10.heap.size = D8.heap.size := by rw [← hW]; simp
  rw [hW] at Za Zb Zr Zg Zx Zy Pa Pb PRG PRX Pr G
  rw [hW]
  clear hW
  refine hK.out _ _ (fun _ => ⟨PRG.out.c0, PRG.out.c1, PRX.out.c0, PRX.out.c1⟩) ?_
  clear hK
  try simp only [Act.put]
  refine wpAnyT_one (i := 3) (o := { dst := none, op := Op.store 25 (Operand.tmp 5) (Operand.tmp 22), type := 0, pos := "modulo.go:27", after := #[{ on := 1, ground := Ground.data }, { on := 2, ground := Ground.chain }, { on := 0, ground := Ground.phase }, { on := 1, ground := Ground.phase }, { on := 2, ground := Ground.phase }], guard := none }) (by kernel_rfl) rfl (fun K hK => ?_)
  have cRX0 := PRX.out.c0
  have cRX1 := PRX.out.c1
  have fRX0 := PRX.out.fz 0
  have fRX1 := PRX.out.fz 1
  go_simp
  clear cRX0 cRX1 fRX0 fRX1
  obtain ⟨V11, hW⟩ : ∃ V11, (V10.setCell ⟨w.heap.size + 1 + 1 + 1, 0, none⟩ (.bool nx)).setCell ⟨w.heap.size + 1 + 1 + 1, 1, none⟩ (.slice adx xx.length qx) = V11 := ⟨_, rfl⟩
  replace Za := hid ((Za.out).wk ((PRX.out).wk (.bool nx) (.slice adx xx.length qx)))
  replace Zb := hid ((Zb.out).wk ((PRX.out).wk (.bool nx) (.slice adx xx.length qx)))
  replace Zr := hid ((Zr.out).box (PRX.out) (.bool nx) (.slice adx xx.length qx))
  replace Zg := hid ((Zg.out).box (PRX.out) (.bool nx) (.slice adx xx.length qx))
  replace Zx := hid ((Zx.out).box (PRX.out) (.bool nx) (.slice adx xx.length qx))
  replace Zy := hid ((Zy.out).box (PRX.out) (.bool nx) (.slice adx xx.length qx))
  replace Pa := hid ((Pa.out).box (b' := w.heap.size + 1 + 1 + 1) (by omega) (.bool nx) (.slice adx xx.length qx))
  replace Pb := hid ((Pb.out).box (b' := w.heap.size + 1 + 1 + 1) (by omega) (.bool nx) (.slice adx xx.length qx))
  replace PRG := hid ((PRG.out).box (b' := w.heap.size + 1 + 1 + 1) (by omega) (.bool nx) (.slice adx xx.length qx))
  replace PRX := hid ((PRX.out).set (.bool nx) (.slice adx xx.length qx))
  replace Pr := hid ((Pr.out).box (b' := w.heap.size + 1 + 1 + 1) (by omega) (.bool nx) (.slice adx xx.length qx))
  replace G : Hid (Below w.heap.size w (((V10.setCell ⟨w.heap.size + 1 + 1 + 1, 0, none⟩ (.bool nx)).setCell ⟨w.heap.size + 1 + 1 + 1, 1, none⟩ (.slice adx xx.length qx)))) := bset (bset (G.out) (by omega)) (by omega)
  have sz11 : V11.heap.size = V10.heap.size := by rw [← hW]; simp
  rw [hW] at Za Zb Zr Zg Zx Zy Pa Pb PRG PRX Pr G
  rw [hW]
  clear hW
  refine hK.out _ _ (fun h => absurd h (by decide)) ?_
  clear hK
  try simp only [Act.put]
  refine wpAnyT_done (by kernel_rfl) ?_ _
  go_wp2
  exact bodyPost_ret (zbackp Try.results54 PRG.out PRX.out _ (by rfl) (by rfl)) rfl ⟨_, _, _, _, _, HX.out, rfl, Zg.out.mono (by omega), Zx.out.mono (by omega), G.out⟩
end Go.Proofs.Ytkikiddoiigbjaa

/- CrtPure -/
namespace Go.Proofs.Ytkikiddoiigbjaa
open Go.RowKit
set_option linter.unusedVariables false

/-- What Crt answers. -/
structure CrtV (a b c d r m : Int) : Prop where
  em : m = lcmv b d
  lo : 0 ≤ r
  hi : r < m
  d1 : b ∣ r - a
  d2 : d ∣ r - c
/-- The steps of Crt. -/
structure CrtS (a b c d g x : Int) : Prop where
  g0 : g ≠ 0
  st : (c - a).tmod g = 0
  ro : d.tmod g = 0
  rn : d.tdiv g ≠ 0
  rl : (d.tdiv g).natAbs ≤ d.natAbs
  mn : ((b * d.tdiv g).natAbs : Int) ≠ 0
  v : CrtV a b c d (((((c - a).tdiv g * x) % d.tdiv g) * b + a) % ((b * d.tdiv g).natAbs : Int)) ((b * d.tdiv g).natAbs : Int)
theorem natAbs_dvd_mul {b v : Int} : b ∣ ((b * v).natAbs : Int) := Int.dvd_natAbs.2 ⟨v, rfl⟩
theorem crtS {a b c d g x y : Int} (hb : b ≠ 0) (hd : d ≠ 0) (h : ExtV (b % d) d g x y) (hdv : (Int.gcd b d : Int) ∣ c - a) : CrtS a b c d g x := by
  obtain ⟨h1, h2, -, -⟩ := h
  rw [gcd_emod] at h1
  have gb : g ∣ b := by rw [h1]; exact Int.gcd_dvd_left ..
  have gd : g ∣ d := by rw [h1]; exact Int.gcd_dvd_right ..
  have gc : g ∣ c - a := by rw [h1]; exact hdv
  have g0 : g ≠ 0 := fun e => by subst e; exact hd (Int.zero_dvd.1 gd)
  have hl : lcmv b d = ((b.tdiv g * d).natAbs : Int) := by unfold lcmv; rw [← h1]
  obtain ⟨u, hu⟩ := gb
  obtain ⟨v, hv⟩ := gd
  obtain ⟨t, ht⟩ := gc
  have ev : d.tdiv g = v := by rw [hv, Int.mul_tdiv_cancel_left _ g0]
  have eu : b.tdiv g = u := by rw [hu, Int.mul_tdiv_cancel_left _ g0]
  have et : (c - a).tdiv g = t := by rw [ht, Int.mul_tdiv_cancel_left _ g0]
  have v0 : v ≠ 0 := fun e => by rw [e] at hv; simp at hv; exact hd hv
  have bv : b * v ≠ 0 := Int.mul_ne_zero hb v0
  rw [eu] at hl
  have em : ((b * v).natAbs : Int) = lcmv b d := by rw [hl]; congr 2; rw [hu, hv]; grind
  have mn : ((b * v).natAbs : Int) ≠ 0 := by omega
  refine ⟨g0, Int.tmod_eq_zero_of_dvd ⟨t, ht⟩, Int.tmod_eq_zero_of_dvd ⟨v, hv⟩, by rw [ev]; exact v0, tdiv_natAbs_le _ _, by rw [ev]; exact mn, ?_⟩
  rw [ev, et]
  refine ⟨em, Int.emod_nonneg _ mn, ?_, ?_, ?_⟩
  · have := Int.emod_lt ((t * x % v) * b + a) mn
    omega
  · have e := Int.emod_def ((t * x % v) * b + a) ((b * v).natAbs : Int)
    obtain ⟨q, hq⟩ := natAbs_dvd_mul (b := b) (v := v)
    rw [e]
    refine ⟨t * x % v - q * (((t * x % v) * b + a) / ((b * v).natAbs : Int)), ?_⟩
    generalize (((t * x % v) * b + a) / ((b * v).natAbs : Int)) = Q
    generalize t * x % v = T
    rw [hq]
    grind
  · have e := Int.emod_def ((t * x % v) * b + a) ((b * v).natAbs : Int)
    have e2 := Int.emod_def (t * x) v
    have e3 : b % d = b - d * (b / d) := Int.emod_def b d
    obtain ⟨q, hq⟩ := natAbs_dvd_mul (b := d) (v := u)
    have e4 : ((b * v).natAbs : Int) = ((d * u).natAbs : Int) := by congr 2; rw [hu, hv]; grind
    rw [e, e4, hq]
    generalize (((t * x % v) * b + a) / (d * q)) = Q
    rw [e2]
    generalize t * x / v = Q2
    rw [e3] at h2
    generalize b / d = Q3 at h2
    have hc : c = a + g * t := by omega
    -- (t x - v Q2) b + a - d q Q - c = t (b x - g) - d u Q2 - d q Q
    have h5 : b * x - g = d * (Q3 * x - y) := by grind
    refine ⟨t * (Q3 * x - y) - u * Q2 - q * Q, ?_⟩
    have h6 : v * b = d * u := by rw [hu, hv]; grind
    have h7 : (t * x - v * Q2) * b + a - d * q * Q - c = t * (b * x - g) - Q2 * (v * b) - d * q * Q := by rw [hc]; grind
    rw [h7, h5, h6]
    grind
end Go.Proofs.Ytkikiddoiigbjaa

/- TailA -/
namespace Go.Proofs.Ytkikiddoiigbjaa
open Go.RowKit
set_option linter.unusedVariables false

section
variable {P : Program} {ops : Array Oper} {Q : Exit → Act → World → Prop} {md : Region.Mode} {S : World → Prop} {n : Nat}

theorem wpAnyT_firstA {i : Nat} {oi : Oper} {v : Value} (hi : ops[i]? = some oi) (hsel : ∀ (j : Nat) (o : Oper) cs b, ops[j]? = some o → o.op ≠ .select cs b)
    (hQ : ∀ c a w, Q (.panic c) (a.put oi.dst v) w → Q (.panic c) a w)
    (hn : ops.size ≤ n) :
    ∀ (fuel : Nat) (listed : Array Bool) (a : Act) (w : World),
      (∀ j oj, ops[j]? = some oj → j ≠ i → listed.getD j true = false → (∀ e ∈ oj.after, Region.binds md e = true → e.on ≠ i) → oi.apart ops oj = true) →
      i ∈ Region.ready md ops listed → YieldsIf P ops S oi v a → S w →
      wpAnyT P md ops Q S n fuel (listed.setIfInBounds i true) (a.put oi.dst v) w → wpAnyT P md ops Q S n (fuel + 1) listed a w := by
  intro fuel
  induction fuel with
  | zero =>
    intro listed a w _ hr hy hS H
    refine ⟨fun h => (by rw [h] at hr; cases hr), fun j hj => ?_⟩
    by_cases hji : j = i
    · subst hji; exact hy.wpOp hi hS ⟨fun _ => hS, H⟩
    · have := ready_mono hj hji
      rw [H.1] at this
      cases this
  | succ fuel ih =>
    intro listed a w hfree hr hy hS H
    refine ⟨fun h => (by rw [h] at hr; cases hr), fun j hj => ?_⟩
    have hjn : j < n := by
      obtain ⟨_, oj, hoj, _⟩ := mem_ready.1 hj
      exact Nat.lt_of_lt_of_le (Array.getElem?_eq_some_iff.1 hoj).1 hn
    by_cases hji : j = i
    · subst hji; exact hy.wpOp hi hS ⟨fun _ => hS, H⟩
    · have h1 := H.2 j (ready_mono hj hji)
      obtain ⟨hjun, oj, hoj, hall⟩ := mem_ready.1 hj
      have hnot : ∀ e ∈ oj.after, Region.binds md e = true → e.on ≠ i := fun e he hb heq => by
        have h1 := hall e he hb
        have h0 := (mem_ready.1 hr).1
        rw [heq] at h1
        rcases Nat.lt_or_ge i listed.size with h' | h'
        · simp [h'] at h0 h1; rw [h0] at h1; cases h1
        · simp [Array.getElem?_eq_none h'] at h1
      have h2 := wpOp_putIf hoj (hfree j oj hoj hji hjun hnot) (fun cs b => hsel i oi cs b hi) (fun cs b => hsel j oj cs b hoj) hQ hy h1
      have hfree' : ∀ k ok, ops[k]? = some ok → k ≠ i → (listed.setIfInBounds j true).getD k true = false →
          (∀ e ∈ ok.after, Region.binds md e = true → e.on ≠ i) → oi.apart ops ok = true := fun k ok hk hki hun hno => by
        refine hfree k ok hk hki ?_ hno
        by_cases hjk : j = k
        · subst hjk; exact hjun
        · rw [getD_set_ne true hjk] at hun; exact hun
      refine wpOp_mono (fun a' w' h3 => ⟨fun _ => h3.2.1 hjn, ih (listed.setIfInBounds j true) a' w' hfree' (ready_mono hr (Ne.symm hji)) h3.1 (h3.2.1 hjn) ?_⟩) h2
      rw [Array.setIfInBounds_comm _ _ hji]
      exact h3.2.2

theorem wpAnyT_takeA {i : Nat} {oi : Oper} {v : Value} {fuel : Nat} {listed : Array Bool} {a : Act} {w : World} (hi : ops[i]? = some oi)
    (hok : (Region.noSelect ops && Region.free md ops listed i && (Region.ready md ops listed).contains i && decide (ops.size ≤ n)) = true)
    (hQ : ∀ c a w, Q (.panic c) (a.put oi.dst v) w → Q (.panic c) a w) (hy : YieldsIf P ops S oi v a) (hS : S w)
    (h : wpAnyT P md ops Q S n fuel (listed.setIfInBounds i true) (a.put oi.dst v) w) : wpAnyT P md ops Q S n (fuel + 1) listed a w := by
  simp only [Bool.and_eq_true, decide_eq_true_eq] at hok
  obtain ⟨⟨⟨h1, h2⟩, h3⟩, h4⟩ := hok
  exact wpAnyT_firstA hi (Region.noSelect_spec h1) hQ h4 fuel listed a w (Region.free_spec hi h2) (by simpa using h3) hy hS h
end
end Go.Proofs.Ytkikiddoiigbjaa
