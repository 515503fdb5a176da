/-
  Ext6: Ext.
-/
import Derived.Test.YtkikiddoiigbjaaQLess6
import Derived.Test.YtkikiddoiigbjaaQExtPure
import Derived.Deep.LoopGhost
namespace Go.Proofs.Ytkikiddoiigbjaa
open Go.RowKit
set_option linter.unusedVariables false

/-- What stands at the head of the loop. -/
def ExtH (w : World) (A B : Int) (k : Nat) (br : Nat) (g : Nat) (wx : World) : Prop :=
  ∃ a b x y u v : Int, ∃ a0 a1 b0 b1 v0 v1 v2 v3 v4 v5 v6 v7 : Value, ExtI A B a b x y u v ∧ g = b.natAbs ∧
    Duo wx w.heap.size a0 a1 ∧ Duo wx (w.heap.size + 1) b0 b1 ∧ Cel wx br 54 [v0, v1, v2, v3, v4, v5, v6, v7] ∧
    Zi wx (.agg #[a0, a1]) a k ∧ Zi wx (.agg #[b0, b1]) b k ∧ Zi wx (.agg #[v0, v1]) x k ∧ Zi wx (.agg #[v2, v3]) y k ∧ Zi wx (.agg #[v4, v5]) u k ∧ Zi wx (.agg #[v6, v7]) v k ∧
    Duo wx (w.heap.size + 1 + 1) (.bool false) (.slice none 0 0) ∧ Duo wx (w.heap.size + 1 + 1 + 1) (.bool false) (.slice none 0 0) ∧ Duo wx (w.heap.size + 1 + 1 + 1 + 1) (.bool false) (.slice none 0 0) ∧ Below w.heap.size w wx
theorem alloc5 (w : World) (o1 o2 o3 o4 o5 : Obj) : Below w.heap.size w (((((w.alloc o1).alloc o2).alloc o3).alloc o4).alloc o5) ∧ (((((w.alloc o1).alloc o2).alloc o3).alloc o4).alloc o5).heap.size = w.heap.size + 1 + 1 + 1 + 1 + 1 := ⟨(((((Below.refl _ _).alloc (Nat.le_refl _) _).alloc (by simp) _).alloc (by simp; omega) _).alloc (by simp; omega) _).alloc (by simp; omega) _, by simp⟩
theorem fits {z : Int} {k : Nat} {B : Int} (h : z.natAbs ≤ max 1 B.natAbs) (hB : (B.natAbs : Int) < pw k) (h1 : 1 < pw k) : (z.natAbs : Int) < pw k := by omega
theorem pw_one {k : Nat} (h : 1 ≤ k) : 1 < pw k := by
  have := pw_up h
  have e : pw 1 = 18446744073709551616 := rfl
  omega
/-- The results that lie in three boxes. -/
theorem zback3 {f : Func} {s1 s2 s3 : Nat} (hr : f.results = #[ResultVar.cell s1 25, ResultVar.cell s2 25, ResultVar.cell s3 25]) {W : World} {b b' b'' : Nat} {x y x' y' x'' y'' : Value} (h : Duo W b x y) (h' : Duo W b' x' y') (h'' : Duo W b'' x'' y'') (tmps : Array Value) (ht : tmps[s1]? = some (.pointer (some ⟨b, 0, none⟩))) (ht' : tmps[s2]? = some (.pointer (some ⟨b', 0, none⟩))) (ht'' : tmps[s3]? = some (.pointer (some ⟨b'', 0, none⟩))) :
    (results f tmps).run Try.prog W = .ok (.tuple #[.agg #[x, y], .agg #[x', y'], .agg #[x'', y'']]) W := by
  simp [results, hr, go_sem, ht, ht', ht'', h.c0, h.c1, h'.c0, h'.c1, h''.c0, h''.c1]
/-- What Ext answers. -/
def Exted (w : World) (A B : Int) (k : Nat) (e : Ending) (w' : World) : Prop :=
  ∃ g x y rg rx ry, ExtV A B g x y ∧ e = .returned (.tuple #[rg, rx, ry]) ∧ Zm w.heap.size w' rg g k ∧ Zm w.heap.size w' rx x k ∧ Zm w.heap.size w' ry y k ∧ Below w.heap.size w w'
theorem edv_mod {z y : Int} (hy : y ≠ 0) : edv z y * y + z % y = z ∧ 0 ≤ z % y ∧ z % y < (y.natAbs : Int) := by
  have h := tmod_small (z := z) hy
  refine ⟨?_, Int.emod_nonneg z hy, Int.emod_lt z hy⟩
  unfold edv
  by_cases hs : z.tmod y < 0
  · rw [if_pos (cmpI_neg hs), ← (euclid_bits hy).1 hs, ← sgn_abs y]
    have := h.2.2.2
    rw [Int.sub_mul]
    omega
  · rw [if_neg (cmpI_nonneg (a := z.tmod y) (b := 0) (by omega)), ← (euclid_bits hy).2 hs]
    exact h.2.2.2

set_option maxHeartbeats 25600000 in
set_option maxRecDepth 100000 in
theorem ext_z {w : World} {va vb : Value} {A B : Int} {k : Nat} (ha : Zi w va A k) (hb : Zi w vb B k) (h1 : 1 ≤ k) (hk : k ≤ 68719476736) :
    Calls Try.prog 20 #[va, vb] w (Exted w A B k) := by
  have LA := hid ha.lt
  have LB := hid hb.lt
  have L1 := hid (pw_one h1)
  have za0 := ha
  obtain ⟨na, xa, ada, ca, rfl, -, -, -⟩ := ha
  have zb0 := hb
  obtain ⟨nb, xb, adb, cb, rfl, -, -, -⟩ := hb
  obtain ⟨W0, hW⟩ : ∃ W0, ((((w.alloc (duo (.bool na) (.slice ada xa.length ca))).alloc (duo (.bool nb) (.slice adb xb.length cb))).alloc zbox).alloc zbox).alloc zbox = W0 := ⟨_, rfl⟩
  obtain ⟨b0, sz0⟩ := alloc5 w (duo (.bool na) (.slice ada xa.length ca)) (duo (.bool nb) (.slice adb xb.length cb)) zbox zbox zbox
  rw [hW] at b0 sz0
  have Pa : Hid (Duo W0 (w.heap.size) (.bool na) (.slice ada xa.length ca)) := by unfold Hid; rw [← hW]; exact duo_late (duo_late (duo_late (duo_late (duo_at (by simp)) _) _) _) _
  have Pb : Hid (Duo W0 (w.heap.size + 1) (.bool nb) (.slice adb xb.length cb)) := by unfold Hid; rw [← hW]; exact duo_late (duo_late (duo_late (duo_at (by simp)) _) _) _
  have PRG : Hid (Duo W0 (w.heap.size + 1 + 1) (.bool false) (.slice none 0 0)) := by unfold Hid; rw [← hW]; exact duo_late (duo_late (duo_at (by simp)) _) _
  have PRX : Hid (Duo W0 (w.heap.size + 1 + 1 + 1) (.bool false) (.slice none 0 0)) := by unfold Hid; rw [← hW]; exact duo_late (duo_at (by simp)) _
  have PRY : Hid (Duo W0 (w.heap.size + 1 + 1 + 1 + 1) (.bool false) (.slice none 0 0)) := by unfold Hid; rw [← hW]; exact duo_at (by simp)
  have Za := hid (za0.now b0)
  clear za0
  have Zb := hid (zb0.now b0)
  clear zb0
  have G := hid b0
  clear b0
  have EW := hid hW
  clear hW
  go_enter Try.func20, Try.ntmps20
  skip
  go_wp2_with fail
  rw [EW.out]
  clear EW
  refine (of_z (n := 1) (by decide) (by decide) _).mono ?_
  rintro e w1 ⟨r0, rfl, m0, b⟩
  obtain ⟨np, xp, adp, qp, rfl, -, -, -, -, -⟩ := id m0
  replace Za := hid (Za.out.now b)
  replace Zb := hid (Zb.out.now b)
  replace Pa := hid (Pa.out.step b)
  replace Pb := hid (Pb.out.step b)
  replace PRG := hid (PRG.out.step b)
  replace PRX := hid (PRX.out.step b)
  replace PRY := hid (PRY.out.step b)
  replace G := hid (below_step G.out b)
  have lz2 := (show Below _ _ _ from b).size
  have Zp := hid m0
  clear b m0
  go_wp2_with fail
  refine (of_z (n := 0) (by decide) (by decide) _).mono ?_
  rintro e w3 ⟨r0, rfl, m0, b⟩
  obtain ⟨nq, xq, adq, qq, rfl, -, -, -, -, -⟩ := id m0
  replace Za := hid (Za.out.now b)
  replace Zb := hid (Zb.out.now b)
  replace Zp := hid (Zp.out.now b)
  replace Pa := hid (Pa.out.step b)
  replace Pb := hid (Pb.out.step b)
  replace PRG := hid (PRG.out.step b)
  replace PRX := hid (PRX.out.step b)
  replace PRY := hid (PRY.out.step b)
  replace G := hid (below_step G.out b)
  have lz4 := (show Below _ _ _ from b).size
  have Zq := hid m0
  clear b m0
  go_wp2_with fail
  refine (of_z (n := 0) (by decide) (by decide) _).mono ?_
  rintro e w5 ⟨r0, rfl, m0, b⟩
  obtain ⟨nr, xr, adr, qr, rfl, -, -, -, -, -⟩ := id m0
  replace Za := hid (Za.out.now b)
  replace Zb := hid (Zb.out.now b)
  replace Zp := hid (Zp.out.now b)
  replace Zq := hid (Zq.out.now b)
  replace Pa := hid (Pa.out.step b)
  replace Pb := hid (Pb.out.step b)
  replace PRG := hid (PRG.out.step b)
  replace PRX := hid (PRX.out.step b)
  replace PRY := hid (PRY.out.step b)
  replace G := hid (below_step G.out b)
  have lz6 := (show Below _ _ _ from b).size
  have Zr := hid m0
  clear b m0
  go_wp2_with fail
  refine (of_z (n := 1) (by decide) (by decide) _).mono ?_
  rintro e w7 ⟨r0, rfl, m0, b⟩
  obtain ⟨ns, xs, ads, qs, rfl, -, -, -, -, -⟩ := id m0
  replace Za := hid (Za.out.now b)
  replace Zb := hid (Zb.out.now b)
  replace Zp := hid (Zp.out.now b)
  replace Zq := hid (Zq.out.now b)
  replace Zr := hid (Zr.out.now b)
  replace Pa := hid (Pa.out.step b)
  replace Pb := hid (Pb.out.step b)
  replace PRG := hid (PRG.out.step b)
  replace PRX := hid (PRX.out.step b)
  replace PRY := hid (PRY.out.step b)
  replace G := hid (below_step G.out b)
  have lz8 := (show Below _ _ _ from b).size
  have Zs := hid m0
  clear b m0
  obtain ⟨V0, hW⟩ : ∃ V0, w7.alloc (.cells #[(.bool np), (.slice adp xp.length qp), (.bool nq), (.slice adq xq.length qq), (.bool nr), (.slice adr xr.length qr), (.bool ns), (.slice ads xs.length qs)] 54) = V0 := ⟨_, rfl⟩
  obtain ⟨kW, szV⟩ := alloc1 w7 (.cells #[(.bool np), (.slice adp xp.length qp), (.bool nq), (.slice adq xq.length qq), (.bool nr), (.slice adr xr.length qr), (.bool ns), (.slice ads xs.length qs)] 54)
  rw [hW] at kW szV
  replace Za := hid (Za.out.now kW)
  replace Zb := hid (Zb.out.now kW)
  replace Zp := hid (Zp.out.now kW)
  replace Zq := hid (Zq.out.now kW)
  replace Zr := hid (Zr.out.now kW)
  replace Zs := hid (Zs.out.now kW)
  replace Pa := hid (Pa.out.step kW)
  replace Pb := hid (Pb.out.step kW)
  replace PRG := hid (PRG.out.step kW)
  replace PRX := hid (PRX.out.step kW)
  replace PRY := hid (PRY.out.step kW)
  replace G := hid (below_step G.out kW)
  have lz9 := (show Below _ _ _ from kW).size
  have PR : Hid (Cel V0 (w7.heap.size) 54 [(.bool np), (.slice adp xp.length qp), (.bool nq), (.slice adq xq.length qq), (.bool nr), (.slice adr xr.length qr), (.bool ns), (.slice ads xs.length qs)]) := by unfold Hid; rw [← hW]; exact Cel.new _ _ _
  clear kW
  have H0 : Hid (ExtH w A B k w7.heap.size B.natAbs V0) := ⟨A, B, 1, 0, 0, 1, _, _, _, _, _, _, _, _, _, _, _, _, extI_start A B, rfl, Pa.out, Pb.out, PR.out, Za.out, Zb.out, Zp.out.zi.more h1, Zq.out.zi.more h1, Zr.out.zi.more h1, Zs.out.zi.more h1, PRG.out, PRX.out, PRY.out, G.out⟩
  clear Pa Pb PR Za Zb Zp Zq Zr Zs PRG PRX PRY G
  have EW := hid hW
  clear hW
  have HBR : w.heap.size + 1 + 1 + 1 + 1 < w7.heap.size := by omega
  go_wp2_with fail
  rw [EW.out]
  clear EW
  generalize w7.heap.size = br at *
  go_loopg [23] B.natAbs (fun g s23 wx => ExtH w A B k br g wx)
  case atStart => exact H0.out
  case round =>
    clear H0
    obtain ⟨za, zb, zx, zy, zu, zv, a0, a1, b0, b1, v0, v1, v2, v3, v4, v5, v6, v7, hI, hg, pa, pb, pr, i0, i1, i2, i3, i4, i5, rg, rx, ry, hG⟩ := hrel
    obtain ⟨na, xa, ada, ca, rfl, rfl⟩ := i0.comp
    have Za := hid i0
    clear i0
    obtain ⟨nb, xb, adb, cb, rfl, rfl⟩ := i1.comp
    have Zb := hid i1
    clear i1
    obtain ⟨np, xp, adp, cp, rfl, rfl⟩ := i2.comp
    have Zp := hid i2
    clear i2
    obtain ⟨nq, xq, adq, cq, rfl, rfl⟩ := i3.comp
    have Zq := hid i3
    clear i3
    obtain ⟨nr, xr, adr, cr, rfl, rfl⟩ := i4.comp
    have Zr := hid i4
    clear i4
    obtain ⟨ns, xs, ads, cs, rfl, rfl⟩ := i5.comp
    have Zs := hid i5
    clear i5
    have Pa := hid pa
    clear pa
    have Pb := hid pb
    clear pb
    have PR := hid pr
    clear pr
    have PRG := hid rg
    clear rg
    have PRX := hid rx
    clear rx
    have PRY := hid ry
    clear ry
    have lr := PR.out.blk
    have G := hid hG
    clear hG
    have HI := hid hI
    clear hI
    have HG := hid hg
    clear hg
    by_cases hz : zb = 0
    · skip
      subst hz
      have HS : Hid (Calls Try.prog 32 #[(.agg #[.bool nb, .slice adb xb.length cb])] wr fun e w' => e = .returned (.int .i64 0) ∧ Below wr.heap.size wr w') := by
        have q := sign_z Zb.out
        rw [cmpI_self] at q
        exact q
      have q0 : ((0 : Int) != 0) = false := rfl
      have bs := cmpI_bound za 0
      have HL := hid HI.out.last
      have cb0 := Pb.out.c0
      have cb1 := Pb.out.c1
      go_wp2_with fail
      clear cb0 cb1
      refine (HS.out).mono ?_
      rintro e w10 ⟨rfl, b⟩
      replace Za := hid (Za.out.now b)
      replace Zb := hid (Zb.out.now b)
      replace Zp := hid (Zp.out.now b)
      replace Zq := hid (Zq.out.now b)
      replace Zr := hid (Zr.out.now b)
      replace Zs := hid (Zs.out.now b)
      replace Pa := hid (Pa.out.step b)
      replace Pb := hid (Pb.out.step b)
      replace PR := hid (PR.out.step b)
      replace PRG := hid (PRG.out.step b)
      replace PRX := hid (PRX.out.step b)
      replace PRY := hid (PRY.out.step b)
      replace G := hid (below_step G.out b)
      have lz11 := (show Below _ _ _ from b).size
      clear b 
      clear HS
      clear Zb
      clear Pb
      have HSG : Hid (∀ w' v k, Zi w' v za k → _) := fun (w' : World) (v : Value) (k : Nat) (h : Zi w' v za k) => sign_z h
      obtain ⟨sg, hsg⟩ : ∃ sg, cmpI za 0 = sg := ⟨_, rfl⟩
      rw [hsg] at HSG bs HL
      have ESG := hid hsg
      clear hsg
      have ca0 := Pa.out.c0
      have ca1 := Pa.out.c1
      go_wp2_with fail
      clear ca0 ca1
      refine (HSG.out _ _ _ Za.out).mono ?_
      rintro e w12 ⟨rfl, b⟩
      replace Za := hid (Za.out.now b)
      replace Zp := hid (Zp.out.now b)
      replace Zq := hid (Zq.out.now b)
      replace Zr := hid (Zr.out.now b)
      replace Zs := hid (Zs.out.now b)
      replace Pa := hid (Pa.out.step b)
      replace PR := hid (PR.out.step b)
      replace PRG := hid (PRG.out.step b)
      replace PRX := hid (PRX.out.step b)
      replace PRY := hid (PRY.out.step b)
      replace G := hid (below_step G.out b)
      have lz13 := (show Below _ _ _ from b).size
      clear b 
      clear HSG
      go_wp2_with fail
      refine (of_z (n := sg) (by omega) (by omega) _).mono ?_
      rintro e w14 ⟨r0, rfl, m0, b⟩
      obtain ⟨no, xo, ado, qo, rfl, -, -, -, -, -⟩ := id m0
      replace Za := hid (Za.out.now b)
      replace Zp := hid (Zp.out.now b)
      replace Zq := hid (Zq.out.now b)
      replace Zr := hid (Zr.out.now b)
      replace Zs := hid (Zs.out.now b)
      replace Pa := hid (Pa.out.step b)
      replace PR := hid (PR.out.step b)
      replace PRG := hid (PRG.out.step b)
      replace PRX := hid (PRX.out.step b)
      replace PRY := hid (PRY.out.step b)
      replace G := hid (below_step G.out b)
      have lz15 := (show Below _ _ _ from b).size
      have Zo := hid m0
      clear b m0
      obtain ⟨V16, hW⟩ : ∃ V16, w14.alloc (duo (.bool no) (.slice ado xo.length qo)) = V16 := ⟨_, rfl⟩
      obtain ⟨kW, sz16⟩ := alloc1 w14 (duo (.bool no) (.slice ado xo.length qo))
      rw [hW] at kW sz16
      replace Za := hid (Za.out.now kW)
      replace Zp := hid (Zp.out.now kW)
      replace Zq := hid (Zq.out.now kW)
      replace Zr := hid (Zr.out.now kW)
      replace Zs := hid (Zs.out.now kW)
      replace Zo := hid (Zo.out.now kW)
      replace Pa := hid (Pa.out.step kW)
      replace PR := hid (PR.out.step kW)
      replace PRG := hid (PRG.out.step kW)
      replace PRX := hid (PRX.out.step kW)
      replace PRY := hid (PRY.out.step kW)
      replace G := hid (below_step G.out kW)
      have lz17 := (show Below _ _ _ from kW).size
      have Po : Hid (Duo V16 (w14.heap.size) (.bool no) (.slice ado xo.length qo)) := by unfold Hid; rw [← hW]; exact duo_at (by simp)
      clear kW
      have EW := hid hW
      clear hW
      go_wp2_with fail
      rw [EW.out]
      clear EW
      refine wp_region_tail (fun w' => w'.cell? ⟨br, 0, none⟩ = some (.bool np) ∧ w'.cell? ⟨br, 1, none⟩ = some (.slice adp xp.length cp) ∧ w'.cell? ⟨br, 2, none⟩ = some (.bool nq) ∧ w'.cell? ⟨br, 3, none⟩ = some (.slice adq xq.length cq) ∧ w'.cell? ⟨br, 4, none⟩ = some (.bool nr) ∧ w'.cell? ⟨br, 5, none⟩ = some (.slice adr xr.length cr) ∧ w'.cell? ⟨br, 6, none⟩ = some (.bool ns) ∧ w'.cell? ⟨br, 7, none⟩ = some (.slice ads xs.length cs) ∧ w'.cell? ⟨w14.heap.size, 0, none⟩ = some (.bool no) ∧ w'.cell? ⟨w14.heap.size, 1, none⟩ = some (.slice ado xo.length qo)) 10 (by kernel_rfl) ?_
      obtain ⟨D18, hD⟩ : ∃ D18, V16.drew = D18 := ⟨_, rfl⟩
      have b : Below V16.heap.size V16 D18 := by rw [← hD]; exact (Below.refl _ _).drew
      rw [hD]
      clear hD
      replace Za := hid (Za.out.now b)
      replace Zp := hid (Zp.out.now b)
      replace Zq := hid (Zq.out.now b)
      replace Zr := hid (Zr.out.now b)
      replace Zs := hid (Zs.out.now b)
      replace Zo := hid (Zo.out.now b)
      replace Pa := hid (Pa.out.step b)
      replace PR := hid (PR.out.step b)
      replace PRG := hid (PRG.out.step b)
      replace PRX := hid (PRX.out.step b)
      replace PRY := hid (PRY.out.step b)
      replace Po := hid (Po.out.step b)
      replace G := hid (below_step G.out b)
      have lz19 := (show Below _ _ _ from b).size
      clear b
      refine wpAnyT_take (i := 0) (oi := { dst := some 46, op := Op.indexAddr 54 (Operand.tmp 7) (Operand.const (Value.int IntKind.i64 0)), type := 0, pos := "bezout.go:45", after := #[], guard := none }) (v := (.pointer (some ⟨br, 0, none⟩))) rfl (by kernel_rfl) (fun _ _ _ h => h) (Or.inl ⟨by rfl, ?_⟩) ⟨(PR.out.at (i := 0) rfl), (PR.out.at (i := 1) rfl), (PR.out.at (i := 2) rfl), (PR.out.at (i := 3) rfl), (PR.out.at (i := 4) rfl), (PR.out.at (i := 5) rfl), (PR.out.at (i := 6) rfl), (PR.out.at (i := 7) rfl), Po.out.c0, Po.out.c1⟩ ?_
      · intro w hSw
        (try dsimp only at hSw)
        go_simp
      simp only [Act.put, List.setIfInBounds_toArray, List.set_cons_zero, List.set_cons_succ]
      refine wpAnyT_take (i := 1) (oi := { dst := some 47, op := Op.indexAddr 53 (Operand.tmp 46) (Operand.const (Value.int IntKind.i64 0)), type := 0, pos := "bezout.go:45", after := #[{ on := 0, ground := Ground.data }], guard := none }) (v := (.pointer (some ⟨br, 0, none⟩))) rfl (by kernel_rfl) (fun _ _ _ h => h) (Or.inl ⟨by rfl, ?_⟩) ⟨(PR.out.at (i := 0) rfl), (PR.out.at (i := 1) rfl), (PR.out.at (i := 2) rfl), (PR.out.at (i := 3) rfl), (PR.out.at (i := 4) rfl), (PR.out.at (i := 5) rfl), (PR.out.at (i := 6) rfl), (PR.out.at (i := 7) rfl), Po.out.c0, Po.out.c1⟩ ?_
      · intro w hSw
        (try dsimp only at hSw)
        go_simp
      simp only [Act.put, List.setIfInBounds_toArray, List.set_cons_zero, List.set_cons_succ]
      refine wpAnyT_take (i := 2) (oi := { dst := some 48, op := Op.load 25 (Operand.tmp 47), type := 25, pos := "bezout.go:45", after := #[{ on := 1, ground := Ground.data }], guard := none }) (v := (.agg #[(.bool np), (.slice adp xp.length cp)])) rfl (by kernel_rfl) (fun _ _ _ h => h) (Or.inl ⟨by rfl, ?_⟩) ⟨(PR.out.at (i := 0) rfl), (PR.out.at (i := 1) rfl), (PR.out.at (i := 2) rfl), (PR.out.at (i := 3) rfl), (PR.out.at (i := 4) rfl), (PR.out.at (i := 5) rfl), (PR.out.at (i := 6) rfl), (PR.out.at (i := 7) rfl), Po.out.c0, Po.out.c1⟩ ?_
      · intro w hSw
        (try dsimp only at hSw)
        go_simp
      simp only [Act.put, List.setIfInBounds_toArray, List.set_cons_zero, List.set_cons_succ]
      refine wpAnyT_take (i := 3) (oi := { dst := some 49, op := Op.load 25 (Operand.tmp 11), type := 25, pos := "bezout.go:45", after := #[], guard := none }) (v := (.agg #[(.bool no), (.slice ado xo.length qo)])) rfl (by kernel_rfl) (fun _ _ _ h => h) (Or.inl ⟨by rfl, ?_⟩) ⟨(PR.out.at (i := 0) rfl), (PR.out.at (i := 1) rfl), (PR.out.at (i := 2) rfl), (PR.out.at (i := 3) rfl), (PR.out.at (i := 4) rfl), (PR.out.at (i := 5) rfl), (PR.out.at (i := 6) rfl), (PR.out.at (i := 7) rfl), Po.out.c0, Po.out.c1⟩ ?_
      · intro w hSw
        (try dsimp only at hSw)
        go_simp
      simp only [Act.put, List.setIfInBounds_toArray, List.set_cons_zero, List.set_cons_succ]
      refine wpAnyT_take (i := 5) (oi := { dst := some 51, op := Op.indexAddr 54 (Operand.tmp 7) (Operand.const (Value.int IntKind.i64 0)), type := 0, pos := "bezout.go:45", after := #[], guard := none }) (v := (.pointer (some ⟨br, 0, none⟩))) rfl (by kernel_rfl) (fun _ _ _ h => h) (Or.inl ⟨by rfl, ?_⟩) ⟨(PR.out.at (i := 0) rfl), (PR.out.at (i := 1) rfl), (PR.out.at (i := 2) rfl), (PR.out.at (i := 3) rfl), (PR.out.at (i := 4) rfl), (PR.out.at (i := 5) rfl), (PR.out.at (i := 6) rfl), (PR.out.at (i := 7) rfl), Po.out.c0, Po.out.c1⟩ ?_
      · intro w hSw
        (try dsimp only at hSw)
        go_simp
      simp only [Act.put, List.setIfInBounds_toArray, List.set_cons_zero, List.set_cons_succ]
      refine wpAnyT_take (i := 6) (oi := { dst := some 52, op := Op.indexAddr 53 (Operand.tmp 51) (Operand.const (Value.int IntKind.i64 1)), type := 0, pos := "bezout.go:45", after := #[{ on := 5, ground := Ground.data }], guard := none }) (v := (.pointer (some ⟨br, 2, none⟩))) rfl (by kernel_rfl) (fun _ _ _ h => h) (Or.inl ⟨by rfl, ?_⟩) ⟨(PR.out.at (i := 0) rfl), (PR.out.at (i := 1) rfl), (PR.out.at (i := 2) rfl), (PR.out.at (i := 3) rfl), (PR.out.at (i := 4) rfl), (PR.out.at (i := 5) rfl), (PR.out.at (i := 6) rfl), (PR.out.at (i := 7) rfl), Po.out.c0, Po.out.c1⟩ ?_
      · intro w hSw
        (try dsimp only at hSw)
        go_simp
      simp only [Act.put, List.setIfInBounds_toArray, List.set_cons_zero, List.set_cons_succ]
      refine wpAnyT_take (i := 7) (oi := { dst := some 53, op := Op.load 25 (Operand.tmp 52), type := 25, pos := "bezout.go:45", after := #[{ on := 6, ground := Ground.data }], guard := none }) (v := (.agg #[(.bool nq), (.slice adq xq.length cq)])) rfl (by kernel_rfl) (fun _ _ _ h => h) (Or.inl ⟨by rfl, ?_⟩) ⟨(PR.out.at (i := 0) rfl), (PR.out.at (i := 1) rfl), (PR.out.at (i := 2) rfl), (PR.out.at (i := 3) rfl), (PR.out.at (i := 4) rfl), (PR.out.at (i := 5) rfl), (PR.out.at (i := 6) rfl), (PR.out.at (i := 7) rfl), Po.out.c0, Po.out.c1⟩ ?_
      · intro w hSw
        (try dsimp only at hSw)
        go_simp
      simp only [Act.put, List.setIfInBounds_toArray, List.set_cons_zero, List.set_cons_succ]
      refine wpAnyT_take (i := 8) (oi := { dst := some 54, op := Op.load 25 (Operand.tmp 11), type := 25, pos := "bezout.go:45", after := #[], guard := none }) (v := (.agg #[(.bool no), (.slice ado xo.length qo)])) rfl (by kernel_rfl) (fun _ _ _ h => h) (Or.inl ⟨by rfl, ?_⟩) ⟨(PR.out.at (i := 0) rfl), (PR.out.at (i := 1) rfl), (PR.out.at (i := 2) rfl), (PR.out.at (i := 3) rfl), (PR.out.at (i := 4) rfl), (PR.out.at (i := 5) rfl), (PR.out.at (i := 6) rfl), (PR.out.at (i := 7) rfl), Po.out.c0, Po.out.c1⟩ ?_
      · intro w hSw
        (try dsimp only at hSw)
        go_simp
      simp only [Act.put, List.setIfInBounds_toArray, List.set_cons_zero, List.set_cons_succ]
      refine wpAnyT_one (i := 4) (o := { dst := some 50, op := Op.call { callee := Callee.value (Operand.func 22), args := #[Operand.tmp 48, Operand.tmp 49], argTypes := #[25, 25] }, type := 25, pos := "bezout.go:45", after := #[{ on := 2, ground := Ground.data }, { on := 3, ground := Ground.data }], guard := none }) (by kernel_rfl) rfl (fun K hK => ?_)
      go_simp
      go_at_call 22
      refine (mul_z Zp.out Zo.out.zi (by omega)).mono ?_
      rintro e w20 ⟨r0, rfl, m0, b⟩
      obtain ⟨nm, xm, adm, qm, rfl, -, -, -, -, -⟩ := id m0
      replace Za := hid (Za.out.now b)
      replace Zp := hid (Zp.out.now b)
      replace Zq := hid (Zq.out.now b)
      replace Zr := hid (Zr.out.now b)
      replace Zs := hid (Zs.out.now b)
      replace Zo := hid (Zo.out.now b)
      replace Pa := hid (Pa.out.step b)
      replace PR := hid (PR.out.step b)
      replace PRG := hid (PRG.out.step b)
      replace PRX := hid (PRX.out.step b)
      replace PRY := hid (PRY.out.step b)
      replace Po := hid (Po.out.step b)
      replace G := hid (below_step G.out b)
      have lz21 := (show Below _ _ _ from b).size
      have Zm := hid m0
      clear b m0
      refine hK.out _ _ (fun _ => ⟨(PR.out.at (i := 0) rfl), (PR.out.at (i := 1) rfl), (PR.out.at (i := 2) rfl), (PR.out.at (i := 3) rfl), (PR.out.at (i := 4) rfl), (PR.out.at (i := 5) rfl), (PR.out.at (i := 6) rfl), (PR.out.at (i := 7) rfl), Po.out.c0, Po.out.c1⟩) ?_
      clear hK
      refine wpAnyT_one (i := 9) (o := { dst := some 55, op := Op.call { callee := Callee.value (Operand.func 22), args := #[Operand.tmp 53, Operand.tmp 54], argTypes := #[25, 25] }, type := 25, pos := "bezout.go:45", after := #[{ on := 7, ground := Ground.data }, { on := 8, ground := Ground.data }, { on := 4, ground := Ground.chain }], guard := none }) (by kernel_rfl) rfl (fun K hK => ?_)
      go_simp
      go_at_call 22
      refine (mul_z Zq.out Zo.out.zi (by omega)).mono ?_
      rintro e w22 ⟨r0, rfl, m0, b⟩
      obtain ⟨nh, xh, adh, qh, rfl, -, -, -, -, -⟩ := id m0
      replace Za := hid (Za.out.now b)
      replace Zp := hid (Zp.out.now b)
      replace Zq := hid (Zq.out.now b)
      replace Zr := hid (Zr.out.now b)
      replace Zs := hid (Zs.out.now b)
      replace Zo := hid (Zo.out.now b)
      replace Zm := hid (Zm.out.now b)
      replace Pa := hid (Pa.out.step b)
      replace PR := hid (PR.out.step b)
      replace PRG := hid (PRG.out.step b)
      replace PRX := hid (PRX.out.step b)
      replace PRY := hid (PRY.out.step b)
      replace Po := hid (Po.out.step b)
      replace G := hid (below_step G.out b)
      have lz23 := (show Below _ _ _ from b).size
      have Zh := hid m0
      clear b m0
      refine hK.out _ _ (fun _ => ⟨(PR.out.at (i := 0) rfl), (PR.out.at (i := 1) rfl), (PR.out.at (i := 2) rfl), (PR.out.at (i := 3) rfl), (PR.out.at (i := 4) rfl), (PR.out.at (i := 5) rfl), (PR.out.at (i := 6) rfl), (PR.out.at (i := 7) rfl), Po.out.c0, Po.out.c1⟩) ?_
      clear hK
      refine wpAnyT_one (i := 10) (o := { dst := none, op := Op.store 25 (Operand.tmp 5) (Operand.tmp 50), type := 0, pos := "bezout.go:45", after := #[{ on := 4, ground := Ground.data }, { on := 9, ground := Ground.chain }, { on := 0, ground := Ground.phase }, { on := 1, ground := Ground.phase }, { on := 2, ground := Ground.phase }, { on := 3, ground := Ground.phase }, { on := 4, ground := Ground.phase }, { on := 5, ground := Ground.textOnly Departure.lateStores }, { on := 6, ground := Ground.textOnly Departure.lateStores }, { on := 7, ground := Ground.textOnly Departure.lateStores }, { on := 8, ground := Ground.textOnly Departure.lateStores }, { on := 9, ground := Ground.textOnly Departure.lateStoresUnsure }], guard := none }) (by kernel_rfl) rfl (fun K hK => ?_)
      have cRX0 := PRX.out.c0
      have cRX1 := PRX.out.c1
      have fRX0 := PRX.out.fz 0
      have fRX1 := PRX.out.fz 1
      go_simp
      clear cRX0 cRX1 fRX0 fRX1
      obtain ⟨V24, hW⟩ : ∃ V24, (w22.setCell ⟨w.heap.size + 1 + 1 + 1, 0, none⟩ (.bool nm)).setCell ⟨w.heap.size + 1 + 1 + 1, 1, none⟩ (.slice adm xm.length qm) = V24 := ⟨_, rfl⟩
      replace Za := hid ((Za.out).wk ((PRX.out).wk (.bool nm) (.slice adm xm.length qm)))
      replace Zp := hid ((Zp.out).wk ((PRX.out).wk (.bool nm) (.slice adm xm.length qm)))
      replace Zq := hid ((Zq.out).wk ((PRX.out).wk (.bool nm) (.slice adm xm.length qm)))
      replace Zr := hid ((Zr.out).wk ((PRX.out).wk (.bool nm) (.slice adm xm.length qm)))
      replace Zs := hid ((Zs.out).wk ((PRX.out).wk (.bool nm) (.slice adm xm.length qm)))
      replace Zo := hid ((Zo.out).box (PRX.out) (.bool nm) (.slice adm xm.length qm))
      replace Zm := hid ((Zm.out).box (PRX.out) (.bool nm) (.slice adm xm.length qm))
      replace Zh := hid ((Zh.out).box (PRX.out) (.bool nm) (.slice adm xm.length qm))
      replace Pa := hid ((Pa.out).box (b' := w.heap.size + 1 + 1 + 1) (by omega) (.bool nm) (.slice adm xm.length qm))
      replace PR := hid ((PR.out).away2 (b' := w.heap.size + 1 + 1 + 1) (by omega) (.bool nm) (.slice adm xm.length qm))
      replace PRG := hid ((PRG.out).box (b' := w.heap.size + 1 + 1 + 1) (by omega) (.bool nm) (.slice adm xm.length qm))
      replace PRX := hid ((PRX.out).set (.bool nm) (.slice adm xm.length qm))
      replace PRY := hid ((PRY.out).box (b' := w.heap.size + 1 + 1 + 1) (by omega) (.bool nm) (.slice adm xm.length qm))
      replace Po := hid ((Po.out).box (b' := w.heap.size + 1 + 1 + 1) (by omega) (.bool nm) (.slice adm xm.length qm))
      replace G : Hid (Below w.heap.size w (((w22.setCell ⟨w.heap.size + 1 + 1 + 1, 0, none⟩ (.bool nm)).setCell ⟨w.heap.size + 1 + 1 + 1, 1, none⟩ (.slice adm xm.length qm)))) := bset (bset (G.out) (by omega)) (by omega)
      have sz24 : V24.heap.size = w22.heap.size := by rw [← hW]; simp
      rw [hW] at Za Zp Zq Zr Zs Zo Zm Zh Pa PR PRG PRX PRY Po G
      rw [hW]
      clear hW
      refine hK.out _ _ (fun h => absurd h (by decide)) ?_
      clear hK
      try simp only [Act.put]
      refine wpAnyT_one (i := 11) (o := { dst := none, op := Op.store 25 (Operand.tmp 6) (Operand.tmp 55), type := 0, pos := "bezout.go:45", after := #[{ on := 9, ground := Ground.data }, { on := 10, ground := Ground.chain }, { on := 0, ground := Ground.phase }, { on := 1, ground := Ground.phase }, { on := 2, ground := Ground.phase }, { on := 3, ground := Ground.phase }, { on := 4, ground := Ground.phase }, { on := 5, ground := Ground.phase }, { on := 6, ground := Ground.phase }, { on := 7, ground := Ground.phase }, { on := 8, ground := Ground.phase }, { on := 9, ground := Ground.phase }, { on := 10, ground := Ground.phase }], guard := none }) (by kernel_rfl) rfl (fun K hK => ?_)
      have cRY0 := PRY.out.c0
      have cRY1 := PRY.out.c1
      have fRY0 := PRY.out.fz 0
      have fRY1 := PRY.out.fz 1
      go_simp
      clear cRY0 cRY1 fRY0 fRY1
      obtain ⟨V25, hW⟩ : ∃ V25, (V24.setCell ⟨w.heap.size + 1 + 1 + 1 + 1, 0, none⟩ (.bool nh)).setCell ⟨w.heap.size + 1 + 1 + 1 + 1, 1, none⟩ (.slice adh xh.length qh) = V25 := ⟨_, rfl⟩
      replace Za := hid ((Za.out).wk ((PRY.out).wk (.bool nh) (.slice adh xh.length qh)))
      replace Zp := hid ((Zp.out).wk ((PRY.out).wk (.bool nh) (.slice adh xh.length qh)))
      replace Zq := hid ((Zq.out).wk ((PRY.out).wk (.bool nh) (.slice adh xh.length qh)))
      replace Zr := hid ((Zr.out).wk ((PRY.out).wk (.bool nh) (.slice adh xh.length qh)))
      replace Zs := hid ((Zs.out).wk ((PRY.out).wk (.bool nh) (.slice adh xh.length qh)))
      replace Zo := hid ((Zo.out).box (PRY.out) (.bool nh) (.slice adh xh.length qh))
      replace Zm := hid ((Zm.out).box (PRY.out) (.bool nh) (.slice adh xh.length qh))
      replace Zh := hid ((Zh.out).box (PRY.out) (.bool nh) (.slice adh xh.length qh))
      replace Pa := hid ((Pa.out).box (b' := w.heap.size + 1 + 1 + 1 + 1) (by omega) (.bool nh) (.slice adh xh.length qh))
      replace PR := hid ((PR.out).away2 (b' := w.heap.size + 1 + 1 + 1 + 1) (by omega) (.bool nh) (.slice adh xh.length qh))
      replace PRG := hid ((PRG.out).box (b' := w.heap.size + 1 + 1 + 1 + 1) (by omega) (.bool nh) (.slice adh xh.length qh))
      replace PRX := hid ((PRX.out).box (b' := w.heap.size + 1 + 1 + 1 + 1) (by omega) (.bool nh) (.slice adh xh.length qh))
      replace PRY := hid ((PRY.out).set (.bool nh) (.slice adh xh.length qh))
      replace Po := hid ((Po.out).box (b' := w.heap.size + 1 + 1 + 1 + 1) (by omega) (.bool nh) (.slice adh xh.length qh))
      replace G : Hid (Below w.heap.size w (((V24.setCell ⟨w.heap.size + 1 + 1 + 1 + 1, 0, none⟩ (.bool nh)).setCell ⟨w.heap.size + 1 + 1 + 1 + 1, 1, none⟩ (.slice adh xh.length qh)))) := bset (bset (G.out) (by omega)) (by omega)
      have sz25 : V25.heap.size = V24.heap.size := by rw [← hW]; simp
      rw [hW] at Za Zp Zq Zr Zs Zo Zm Zh Pa PR PRG PRX PRY Po G
      rw [hW]
      clear hW
      refine hK.out _ _ (fun h => absurd h (by decide)) ?_
      clear hK
      try simp only [Act.put]
      refine wpAnyT_done (by kernel_rfl) ?_ _
      clear Zo
      clear Po
      have FX : Hid (((zx * sg).natAbs : Int) < pw k) := by
        have h1 := fits HI.out.cx0 LB.out L1.out
        have h2 : (zx * sg).natAbs ≤ zx.natAbs := by
          rw [Int.natAbs_mul]
          have := Nat.mul_le_mul_left zx.natAbs (show sg.natAbs ≤ 1 by omega)
          omega
        unfold Hid
        omega
      have FY : Hid (((zy * sg).natAbs : Int) < pw k) := by
        have h1 := fits HI.out.cy0 LA.out L1.out
        have h2 : (zy * sg).natAbs ≤ zy.natAbs := by
          rw [Int.natAbs_mul]
          have := Nat.mul_le_mul_left zy.natAbs (show sg.natAbs ≤ 1 by omega)
          omega
        unfold Hid
        omega
      replace Zm := hid (Zm.out.fit FX.out)
      replace Zh := hid (Zh.out.fit FY.out)
      clear FX FY
      by_cases hB : B = 0
      · skip
        subst hB
        have q4 : ((4 : Int) != 0) = true := rfl
        have ER := hid (HI.out.zz rfl).2.2
        have FIN : Hid (ExtV A 0 (za.natAbs : Int) (zx * sg) (zy * sg)) := by
          have q := HI.out.none
          rw [ESG.out] at q
          exact q
        clear HI HL
        have cRX0 := PRX.out.c0
        have cRX1 := PRX.out.c1
        have cR0 := (PR.out.at (i := 0) rfl)
        have cR1 := (PR.out.at (i := 1) rfl)
        have cR2 := (PR.out.at (i := 2) rfl)
        have cR3 := (PR.out.at (i := 3) rfl)
        have cR4 := (PR.out.at (i := 4) rfl)
        have cR5 := (PR.out.at (i := 5) rfl)
        have cR6 := (PR.out.at (i := 6) rfl)
        have cR7 := (PR.out.at (i := 7) rfl)
        go_wp2_with fail
        clear cRX0 cRX1 cR0 cR1 cR2 cR3 cR4 cR5 cR6 cR7
        refine (euclid_zero Zm.out.zi Zr.out ER.out).mono ?_
        rintro e w26 ⟨r0, r1, rfl, m0, m1, b⟩
        obtain ⟨nd, xd, add, qd, rfl, -, -, -, -, -⟩ := id m0
        obtain ⟨nl, xl, adl, ql, rfl, -, -, -, -, -⟩ := id m1
        replace Za := hid (Za.out.now b)
        replace Zp := hid (Zp.out.now b)
        replace Zq := hid (Zq.out.now b)
        replace Zr := hid (Zr.out.now b)
        replace Zs := hid (Zs.out.now b)
        replace Zm := hid (Zm.out.now b)
        replace Zh := hid (Zh.out.now b)
        replace Pa := hid (Pa.out.step b)
        replace PR := hid (PR.out.step b)
        replace PRG := hid (PRG.out.step b)
        replace PRX := hid (PRX.out.step b)
        replace PRY := hid (PRY.out.step b)
        replace G := hid (below_step G.out b)
        have lz27 := (show Below _ _ _ from b).size
        have Zd := hid m0
        have Zl := hid m1
        clear b m0 m1
        obtain ⟨V28, hW⟩ : ∃ V28, (w26.alloc (duo (.bool nd) (.slice add xd.length qd))).alloc (duo (.bool nl) (.slice adl xl.length ql)) = V28 := ⟨_, rfl⟩
        obtain ⟨kW, sz28⟩ := alloc2 w26 (duo (.bool nd) (.slice add xd.length qd)) (duo (.bool nl) (.slice adl xl.length ql))
        rw [hW] at kW sz28
        replace Za := hid (Za.out.now kW)
        replace Zp := hid (Zp.out.now kW)
        replace Zq := hid (Zq.out.now kW)
        replace Zr := hid (Zr.out.now kW)
        replace Zs := hid (Zs.out.now kW)
        replace Zm := hid (Zm.out.now kW)
        replace Zh := hid (Zh.out.now kW)
        replace Zd := hid (Zd.out.now kW)
        replace Zl := hid (Zl.out.now kW)
        replace Pa := hid (Pa.out.step kW)
        replace PR := hid (PR.out.step kW)
        replace PRG := hid (PRG.out.step kW)
        replace PRX := hid (PRX.out.step kW)
        replace PRY := hid (PRY.out.step kW)
        replace G := hid (below_step G.out kW)
        have lz29 := (show Below _ _ _ from kW).size
        have Pd : Hid (Duo V28 (w26.heap.size) (.bool nd) (.slice add xd.length qd)) := by unfold Hid; rw [← hW]; exact duo_late (duo_at (by simp)) _
        have Pl : Hid (Duo V28 (w26.heap.size + 1) (.bool nl) (.slice adl xl.length ql)) := by unfold Hid; rw [← hW]; exact duo_at (by simp)
        clear kW
        have EW := hid hW
        clear hW
        go_wp2_with fail
        rw [EW.out]
        clear EW
        refine wp_region_tail (fun w' => w'.cell? ⟨w.heap.size, 0, none⟩ = some (.bool na) ∧ w'.cell? ⟨w.heap.size, 1, none⟩ = some (.slice ada xa.length ca) ∧ w'.cell? ⟨w.heap.size + 1 + 1 + 1, 0, none⟩ = some (.bool nm) ∧ w'.cell? ⟨w.heap.size + 1 + 1 + 1, 1, none⟩ = some (.slice adm xm.length qm) ∧ w'.cell? ⟨w.heap.size + 1 + 1 + 1 + 1, 0, none⟩ = some (.bool nh) ∧ w'.cell? ⟨w.heap.size + 1 + 1 + 1 + 1, 1, none⟩ = some (.slice adh xh.length qh)) 6 (by kernel_rfl) ?_
        obtain ⟨D30, hD⟩ : ∃ D30, V28.drew = D30 := ⟨_, rfl⟩
        have b : Below V28.heap.size V28 D30 := by rw [← hD]; exact (Below.refl _ _).drew
        rw [hD]
        clear hD
        replace Za := hid (Za.out.now b)
        replace Zp := hid (Zp.out.now b)
        replace Zq := hid (Zq.out.now b)
        replace Zr := hid (Zr.out.now b)
        replace Zs := hid (Zs.out.now b)
        replace Zm := hid (Zm.out.now b)
        replace Zh := hid (Zh.out.now b)
        replace Zd := hid (Zd.out.now b)
        replace Zl := hid (Zl.out.now b)
        replace Pa := hid (Pa.out.step b)
        replace PR := hid (PR.out.step b)
        replace PRG := hid (PRG.out.step b)
        replace PRX := hid (PRX.out.step b)
        replace PRY := hid (PRY.out.step b)
        replace Pd := hid (Pd.out.step b)
        replace Pl := hid (Pl.out.step b)
        replace G := hid (below_step G.out b)
        have lz31 := (show Below _ _ _ from b).size
        clear b
        refine wpAnyT_take (i := 0) (oi := { dst := some 67, op := Op.load 25 (Operand.tmp 2), type := 25, pos := "bezout.go:50", after := #[], guard := none }) (v := (.agg #[(.bool na), (.slice ada xa.length ca)])) rfl (by kernel_rfl) (fun _ _ _ h => h) (Or.inl ⟨by rfl, ?_⟩) ⟨Pa.out.c0, Pa.out.c1, PRX.out.c0, PRX.out.c1, PRY.out.c0, PRY.out.c1⟩ ?_
        · intro w hSw
          (try dsimp only at hSw)
          go_simp
        simp only [Act.put, List.setIfInBounds_toArray, List.set_cons_zero, List.set_cons_succ]
        refine wpAnyT_take (i := 2) (oi := { dst := some 69, op := Op.load 25 (Operand.tmp 5), type := 25, pos := "bezout.go:50", after := #[{ on := 4, ground := Ground.gcOnly Departure.lateStores }], guard := none }) (v := (.agg #[(.bool nm), (.slice adm xm.length qm)])) rfl (by kernel_rfl) (fun _ _ _ h => h) (Or.inl ⟨by rfl, ?_⟩) ⟨Pa.out.c0, Pa.out.c1, PRX.out.c0, PRX.out.c1, PRY.out.c0, PRY.out.c1⟩ ?_
        · intro w hSw
          (try dsimp only at hSw)
          go_simp
        simp only [Act.put, List.setIfInBounds_toArray, List.set_cons_zero, List.set_cons_succ]
        refine wpAnyT_take (i := 3) (oi := { dst := some 70, op := Op.load 25 (Operand.tmp 6), type := 25, pos := "bezout.go:50", after := #[{ on := 5, ground := Ground.gcOnly Departure.lateStores }], guard := none }) (v := (.agg #[(.bool nh), (.slice adh xh.length qh)])) rfl (by kernel_rfl) (fun _ _ _ h => h) (Or.inl ⟨by rfl, ?_⟩) ⟨Pa.out.c0, Pa.out.c1, PRX.out.c0, PRX.out.c1, PRY.out.c0, PRY.out.c1⟩ ?_
        · intro w hSw
          (try dsimp only at hSw)
          go_simp
        simp only [Act.put, List.setIfInBounds_toArray, List.set_cons_zero, List.set_cons_succ]
        refine wpAnyT_one (i := 1) (o := { dst := some 68, op := Op.call { callee := Callee.value (Operand.func 31), args := #[Operand.tmp 67], argTypes := #[25] }, type := 25, pos := "bezout.go:50", after := #[{ on := 0, ground := Ground.data }], guard := none }) (by kernel_rfl) rfl (fun K hK => ?_)
        go_simp
        go_at_call 31
        refine (abs_z Za.out).mono ?_
        rintro e w32 ⟨r0, rfl, m0, b⟩
        obtain ⟨ng, xg, adg, qg, rfl, -, -, -, -, -⟩ := id m0
        replace Za := hid (Za.out.now b)
        replace Zp := hid (Zp.out.now b)
        replace Zq := hid (Zq.out.now b)
        replace Zr := hid (Zr.out.now b)
        replace Zs := hid (Zs.out.now b)
        replace Zm := hid (Zm.out.now b)
        replace Zh := hid (Zh.out.now b)
        replace Zd := hid (Zd.out.now b)
        replace Zl := hid (Zl.out.now b)
        replace Pa := hid (Pa.out.step b)
        replace PR := hid (PR.out.step b)
        replace PRG := hid (PRG.out.step b)
        replace PRX := hid (PRX.out.step b)
        replace PRY := hid (PRY.out.step b)
        replace Pd := hid (Pd.out.step b)
        replace Pl := hid (Pl.out.step b)
        replace G := hid (below_step G.out b)
        have lz33 := (show Below _ _ _ from b).size
        have Zg := hid m0
        clear b m0
        refine hK.out _ _ (fun _ => ⟨Pa.out.c0, Pa.out.c1, PRX.out.c0, PRX.out.c1, PRY.out.c0, PRY.out.c1⟩) ?_
        clear hK
        refine wpAnyT_one (i := 4) (o := { dst := none, op := Op.store 25 (Operand.tmp 4) (Operand.tmp 68), type := 0, pos := "bezout.go:50", after := #[{ on := 1, ground := Ground.data }, { on := 1, ground := Ground.chain }, { on := 0, ground := Ground.phase }, { on := 1, ground := Ground.phase }, { on := 2, ground := Ground.textOnly Departure.lateStores }, { on := 3, ground := Ground.textOnly Departure.lateStores }], guard := none }) (by kernel_rfl) rfl (fun K hK => ?_)
        have cRG0 := PRG.out.c0
        have cRG1 := PRG.out.c1
        have fRG0 := PRG.out.fz 0
        have fRG1 := PRG.out.fz 1
        go_simp
        clear cRG0 cRG1 fRG0 fRG1
        obtain ⟨V34, hW⟩ : ∃ V34, (w32.setCell ⟨w.heap.size + 1 + 1, 0, none⟩ (.bool ng)).setCell ⟨w.heap.size + 1 + 1, 1, none⟩ (.slice adg xg.length qg) = V34 := ⟨_, rfl⟩
        replace Za := hid ((Za.out).wk ((PRG.out).wk (.bool ng) (.slice adg xg.length qg)))
        replace Zp := hid ((Zp.out).wk ((PRG.out).wk (.bool ng) (.slice adg xg.length qg)))
        replace Zq := hid ((Zq.out).wk ((PRG.out).wk (.bool ng) (.slice adg xg.length qg)))
        replace Zr := hid ((Zr.out).wk ((PRG.out).wk (.bool ng) (.slice adg xg.length qg)))
        replace Zs := hid ((Zs.out).wk ((PRG.out).wk (.bool ng) (.slice adg xg.length qg)))
        replace Zm := hid ((Zm.out).box (PRG.out) (.bool ng) (.slice adg xg.length qg))
        replace Zh := hid ((Zh.out).box (PRG.out) (.bool ng) (.slice adg xg.length qg))
        replace Zd := hid ((Zd.out).box (PRG.out) (.bool ng) (.slice adg xg.length qg))
        replace Zl := hid ((Zl.out).box (PRG.out) (.bool ng) (.slice adg xg.length qg))
        replace Zg := hid ((Zg.out).box (PRG.out) (.bool ng) (.slice adg xg.length qg))
        replace Pa := hid ((Pa.out).box (b' := w.heap.size + 1 + 1) (by omega) (.bool ng) (.slice adg xg.length qg))
        replace PR := hid ((PR.out).away2 (b' := w.heap.size + 1 + 1) (by omega) (.bool ng) (.slice adg xg.length qg))
        replace PRG := hid ((PRG.out).set (.bool ng) (.slice adg xg.length qg))
        replace PRX := hid ((PRX.out).box (b' := w.heap.size + 1 + 1) (by omega) (.bool ng) (.slice adg xg.length qg))
        replace PRY := hid ((PRY.out).box (b' := w.heap.size + 1 + 1) (by omega) (.bool ng) (.slice adg xg.length qg))
        replace Pd := hid ((Pd.out).box (b' := w.heap.size + 1 + 1) (by omega) (.bool ng) (.slice adg xg.length qg))
        replace Pl := hid ((Pl.out).box (b' := w.heap.size + 1 + 1) (by omega) (.bool ng) (.slice adg xg.length qg))
        replace G : Hid (Below w.heap.size w (((w32.setCell ⟨w.heap.size + 1 + 1, 0, none⟩ (.bool ng)).setCell ⟨w.heap.size + 1 + 1, 1, none⟩ (.slice adg xg.length qg)))) := bset (bset (G.out) (by omega)) (by omega)
        have sz34 : V34.heap.size = w32.heap.size := by rw [← hW]; simp
        rw [hW] at Za Zp Zq Zr Zs Zm Zh Zd Zl Zg Pa PR PRG PRX PRY Pd Pl G
        rw [hW]
        clear hW
        refine hK.out _ _ (fun _ => ⟨Pa.out.c0, Pa.out.c1, PRX.out.c0, PRX.out.c1, PRY.out.c0, PRY.out.c1⟩) ?_
        clear hK
        try simp only [Act.put]
        refine wpAnyT_one (i := 5) (o := { dst := none, op := Op.store 25 (Operand.tmp 5) (Operand.tmp 69), type := 0, pos := "bezout.go:50", after := #[{ on := 2, ground := Ground.data }, { on := 4, ground := Ground.chain }, { on := 0, ground := Ground.phase }, { on := 1, ground := Ground.phase }, { on := 2, ground := Ground.phase }, { on := 3, ground := Ground.textOnly Departure.lateStores }, { on := 4, ground := Ground.phase }], guard := none }) (by kernel_rfl) rfl (fun K hK => ?_)
        have cRX0 := PRX.out.c0
        have cRX1 := PRX.out.c1
        have fRX0 := PRX.out.fz 0
        have fRX1 := PRX.out.fz 1
        go_simp
        clear cRX0 cRX1 fRX0 fRX1
        obtain ⟨V35, hW⟩ : ∃ V35, (V34.setCell ⟨w.heap.size + 1 + 1 + 1, 0, none⟩ (.bool nm)).setCell ⟨w.heap.size + 1 + 1 + 1, 1, none⟩ (.slice adm xm.length qm) = V35 := ⟨_, rfl⟩
        replace Za := hid ((Za.out).wk ((PRX.out).wk (.bool nm) (.slice adm xm.length qm)))
        replace Zp := hid ((Zp.out).wk ((PRX.out).wk (.bool nm) (.slice adm xm.length qm)))
        replace Zq := hid ((Zq.out).wk ((PRX.out).wk (.bool nm) (.slice adm xm.length qm)))
        replace Zr := hid ((Zr.out).wk ((PRX.out).wk (.bool nm) (.slice adm xm.length qm)))
        replace Zs := hid ((Zs.out).wk ((PRX.out).wk (.bool nm) (.slice adm xm.length qm)))
        replace Zm := hid ((Zm.out).box (PRX.out) (.bool nm) (.slice adm xm.length qm))
        replace Zh := hid ((Zh.out).box (PRX.out) (.bool nm) (.slice adm xm.length qm))
        replace Zd := hid ((Zd.out).box (PRX.out) (.bool nm) (.slice adm xm.length qm))
        replace Zl := hid ((Zl.out).box (PRX.out) (.bool nm) (.slice adm xm.length qm))
        replace Zg := hid ((Zg.out).box (PRX.out) (.bool nm) (.slice adm xm.length qm))
        replace Pa := hid ((Pa.out).box (b' := w.heap.size + 1 + 1 + 1) (by omega) (.bool nm) (.slice adm xm.length qm))
        replace PR := hid ((PR.out).away2 (b' := w.heap.size + 1 + 1 + 1) (by omega) (.bool nm) (.slice adm xm.length qm))
        replace PRG := hid ((PRG.out).box (b' := w.heap.size + 1 + 1 + 1) (by omega) (.bool nm) (.slice adm xm.length qm))
        replace PRX := hid ((PRX.out).set (.bool nm) (.slice adm xm.length qm))
        replace PRY := hid ((PRY.out).box (b' := w.heap.size + 1 + 1 + 1) (by omega) (.bool nm) (.slice adm xm.length qm))
        replace Pd := hid ((Pd.out).box (b' := w.heap.size + 1 + 1 + 1) (by omega) (.bool nm) (.slice adm xm.length qm))
        replace Pl := hid ((Pl.out).box (b' := w.heap.size + 1 + 1 + 1) (by omega) (.bool nm) (.slice adm xm.length qm))
        replace G : Hid (Below w.heap.size w (((V34.setCell ⟨w.heap.size + 1 + 1 + 1, 0, none⟩ (.bool nm)).setCell ⟨w.heap.size + 1 + 1 + 1, 1, none⟩ (.slice adm xm.length qm)))) := bset (bset (G.out) (by omega)) (by omega)
        have sz35 : V35.heap.size = V34.heap.size := by rw [← hW]; simp
        rw [hW] at Za Zp Zq Zr Zs Zm Zh Zd Zl Zg Pa PR PRG PRX PRY Pd Pl G
        rw [hW]
        clear hW
        refine hK.out _ _ (fun _ => ⟨Pa.out.c0, Pa.out.c1, PRX.out.c0, PRX.out.c1, PRY.out.c0, PRY.out.c1⟩) ?_
        clear hK
        try simp only [Act.put]
        refine wpAnyT_one (i := 6) (o := { dst := none, op := Op.store 25 (Operand.tmp 6) (Operand.tmp 70), type := 0, pos := "bezout.go:50", after := #[{ on := 3, ground := Ground.data }, { on := 5, ground := Ground.chain }, { on := 0, ground := Ground.phase }, { on := 1, ground := Ground.phase }, { on := 2, ground := Ground.phase }, { on := 3, ground := Ground.phase }, { on := 4, ground := Ground.phase }, { on := 5, ground := Ground.phase }], guard := none }) (by kernel_rfl) rfl (fun K hK => ?_)
        have cRY0 := PRY.out.c0
        have cRY1 := PRY.out.c1
        have fRY0 := PRY.out.fz 0
        have fRY1 := PRY.out.fz 1
        go_simp
        clear cRY0 cRY1 fRY0 fRY1
        obtain ⟨V36, hW⟩ : ∃ V36, (V35.setCell ⟨w.heap.size + 1 + 1 + 1 + 1, 0, none⟩ (.bool nh)).setCell ⟨w.heap.size + 1 + 1 + 1 + 1, 1, none⟩ (.slice adh xh.length qh) = V36 := ⟨_, rfl⟩
        replace Za := hid ((Za.out).wk ((PRY.out).wk (.bool nh) (.slice adh xh.length qh)))
        replace Zp := hid ((Zp.out).wk ((PRY.out).wk (.bool nh) (.slice adh xh.length qh)))
        replace Zq := hid ((Zq.out).wk ((PRY.out).wk (.bool nh) (.slice adh xh.length qh)))
        replace Zr := hid ((Zr.out).wk ((PRY.out).wk (.bool nh) (.slice adh xh.length qh)))
        replace Zs := hid ((Zs.out).wk ((PRY.out).wk (.bool nh) (.slice adh xh.length qh)))
        replace Zm := hid ((Zm.out).box (PRY.out) (.bool nh) (.slice adh xh.length qh))
        replace Zh := hid ((Zh.out).box (PRY.out) (.bool nh) (.slice adh xh.length qh))
        replace Zd := hid ((Zd.out).box (PRY.out) (.bool nh) (.slice adh xh.length qh))
        replace Zl := hid ((Zl.out).box (PRY.out) (.bool nh) (.slice adh xh.length qh))
        replace Zg := hid ((Zg.out).box (PRY.out) (.bool nh) (.slice adh xh.length qh))
        replace Pa := hid ((Pa.out).box (b' := w.heap.size + 1 + 1 + 1 + 1) (by omega) (.bool nh) (.slice adh xh.length qh))
        replace PR := hid ((PR.out).away2 (b' := w.heap.size + 1 + 1 + 1 + 1) (by omega) (.bool nh) (.slice adh xh.length qh))
        replace PRG := hid ((PRG.out).box (b' := w.heap.size + 1 + 1 + 1 + 1) (by omega) (.bool nh) (.slice adh xh.length qh))
        replace PRX := hid ((PRX.out).box (b' := w.heap.size + 1 + 1 + 1 + 1) (by omega) (.bool nh) (.slice adh xh.length qh))
        replace PRY := hid ((PRY.out).set (.bool nh) (.slice adh xh.length qh))
        replace Pd := hid ((Pd.out).box (b' := w.heap.size + 1 + 1 + 1 + 1) (by omega) (.bool nh) (.slice adh xh.length qh))
        replace Pl := hid ((Pl.out).box (b' := w.heap.size + 1 + 1 + 1 + 1) (by omega) (.bool nh) (.slice adh xh.length qh))
        replace G : Hid (Below w.heap.size w (((V35.setCell ⟨w.heap.size + 1 + 1 + 1 + 1, 0, none⟩ (.bool nh)).setCell ⟨w.heap.size + 1 + 1 + 1 + 1, 1, none⟩ (.slice adh xh.length qh)))) := bset (bset (G.out) (by omega)) (by omega)
        have sz36 : V36.heap.size = V35.heap.size := by rw [← hW]; simp
        rw [hW] at Za Zp Zq Zr Zs Zm Zh Zd Zl Zg Pa PR PRG PRX PRY Pd Pl G
        rw [hW]
        clear hW
        refine hK.out _ _ (fun h => absurd h (by decide)) ?_
        clear hK
        try simp only [Act.put]
        refine wpAnyT_done (by kernel_rfl) ?_ _
        go_wp2
        exact bodyPost_ret (zback3 Try.results20 PRG.out PRX.out PRY.out _ (by rfl) (by rfl) (by rfl)) rfl ⟨_, _, _, _, _, _, FIN.out, rfl, Zg.out.mono (by omega), Zm.out.mono (by omega), Zh.out.mono (by omega), G.out⟩
      · skip
        have q4 : ((0 : Int) != 0) = false := rfl
        obtain ⟨hr, hfin⟩ := HI.out.some hB
        have ED := hid (edv_mod (z := zx * sg) hr)
        have HR := hid hr
        have FIN : Hid (ExtV A B (za.natAbs : Int) ((zx * sg) % zu) (zy * sg - edv (zx * sg) zu * zv)) := by
          have q := hfin (edv (zx * sg) zu) ((zx * sg) % zu)
          rw [ESG.out] at q
          exact q ED.out.1 ED.out.2.1 ED.out.2.2
        clear hr hfin ED HI HL
        have SM := hid FIN.out.small
        have cRX0 := PRX.out.c0
        have cRX1 := PRX.out.c1
        have cR0 := (PR.out.at (i := 0) rfl)
        have cR1 := (PR.out.at (i := 1) rfl)
        have cR2 := (PR.out.at (i := 2) rfl)
        have cR3 := (PR.out.at (i := 3) rfl)
        have cR4 := (PR.out.at (i := 4) rfl)
        have cR5 := (PR.out.at (i := 5) rfl)
        have cR6 := (PR.out.at (i := 6) rfl)
        have cR7 := (PR.out.at (i := 7) rfl)
        go_wp2_with fail
        clear cRX0 cRX1 cR0 cR1 cR2 cR3 cR4 cR5 cR6 cR7
        refine (euclid_z Zm.out.zi Zr.out HR.out (by omega) (by omega)).mono ?_
        rintro e w26 ⟨r0, r1, rfl, m0, m1, b⟩
        obtain ⟨nd, xd, add, qd, rfl, -, -, -, -, -⟩ := id m0
        obtain ⟨nl, xl, adl, ql, rfl, -, -, -, -, -⟩ := id m1
        replace Za := hid (Za.out.now b)
        replace Zp := hid (Zp.out.now b)
        replace Zq := hid (Zq.out.now b)
        replace Zr := hid (Zr.out.now b)
        replace Zs := hid (Zs.out.now b)
        replace Zm := hid (Zm.out.now b)
        replace Zh := hid (Zh.out.now b)
        replace Pa := hid (Pa.out.step b)
        replace PR := hid (PR.out.step b)
        replace PRG := hid (PRG.out.step b)
        replace PRX := hid (PRX.out.step b)
        replace PRY := hid (PRY.out.step b)
        replace G := hid (below_step G.out b)
        have lz27 := (show Below _ _ _ from b).size
        have Zd := hid m0
        have Zl := hid m1
        clear b m0 m1
        generalize edv (zx * sg) zu = TU at *
        generalize (zx * sg) % zu = LE at *
        obtain ⟨V28, hW⟩ : ∃ V28, (w26.alloc (duo (.bool nd) (.slice add xd.length qd))).alloc (duo (.bool nl) (.slice adl xl.length ql)) = V28 := ⟨_, rfl⟩
        obtain ⟨kW, sz28⟩ := alloc2 w26 (duo (.bool nd) (.slice add xd.length qd)) (duo (.bool nl) (.slice adl xl.length ql))
        rw [hW] at kW sz28
        replace Za := hid (Za.out.now kW)
        replace Zp := hid (Zp.out.now kW)
        replace Zq := hid (Zq.out.now kW)
        replace Zr := hid (Zr.out.now kW)
        replace Zs := hid (Zs.out.now kW)
        replace Zm := hid (Zm.out.now kW)
        replace Zh := hid (Zh.out.now kW)
        replace Zd := hid (Zd.out.now kW)
        replace Zl := hid (Zl.out.now kW)
        replace Pa := hid (Pa.out.step kW)
        replace PR := hid (PR.out.step kW)
        replace PRG := hid (PRG.out.step kW)
        replace PRX := hid (PRX.out.step kW)
        replace PRY := hid (PRY.out.step kW)
        replace G := hid (below_step G.out kW)
        have lz29 := (show Below _ _ _ from kW).size
        have Pd : Hid (Duo V28 (w26.heap.size) (.bool nd) (.slice add xd.length qd)) := by unfold Hid; rw [← hW]; exact duo_late (duo_at (by simp)) _
        have Pl : Hid (Duo V28 (w26.heap.size + 1) (.bool nl) (.slice adl xl.length ql)) := by unfold Hid; rw [← hW]; exact duo_at (by simp)
        clear kW
        have EW := hid hW
        clear hW
        go_wp2_with fail
        rw [EW.out]
        clear EW
        refine wp_region_tail (fun w' => w'.cell? ⟨w.heap.size, 0, none⟩ = some (.bool na) ∧ w'.cell? ⟨w.heap.size, 1, none⟩ = some (.slice ada xa.length ca) ∧ w'.cell? ⟨w26.heap.size + 1, 0, none⟩ = some (.bool nl) ∧ w'.cell? ⟨w26.heap.size + 1, 1, none⟩ = some (.slice adl xl.length ql) ∧ w'.cell? ⟨w.heap.size + 1 + 1 + 1 + 1, 0, none⟩ = some (.bool nh) ∧ w'.cell? ⟨w.heap.size + 1 + 1 + 1 + 1, 1, none⟩ = some (.slice adh xh.length qh) ∧ w'.cell? ⟨w26.heap.size, 0, none⟩ = some (.bool nd) ∧ w'.cell? ⟨w26.heap.size, 1, none⟩ = some (.slice add xd.length qd) ∧ w'.cell? ⟨br, 0, none⟩ = some (.bool np) ∧ w'.cell? ⟨br, 1, none⟩ = some (.slice adp xp.length cp) ∧ w'.cell? ⟨br, 2, none⟩ = some (.bool nq) ∧ w'.cell? ⟨br, 3, none⟩ = some (.slice adq xq.length cq) ∧ w'.cell? ⟨br, 4, none⟩ = some (.bool nr) ∧ w'.cell? ⟨br, 5, none⟩ = some (.slice adr xr.length cr) ∧ w'.cell? ⟨br, 6, none⟩ = some (.bool ns) ∧ w'.cell? ⟨br, 7, none⟩ = some (.slice ads xs.length cs)) 11 (by kernel_rfl) ?_
        obtain ⟨D30, hD⟩ : ∃ D30, V28.drew = D30 := ⟨_, rfl⟩
        have b : Below V28.heap.size V28 D30 := by rw [← hD]; exact (Below.refl _ _).drew
        rw [hD]
        clear hD
        replace Za := hid (Za.out.now b)
        replace Zp := hid (Zp.out.now b)
        replace Zq := hid (Zq.out.now b)
        replace Zr := hid (Zr.out.now b)
        replace Zs := hid (Zs.out.now b)
        replace Zm := hid (Zm.out.now b)
        replace Zh := hid (Zh.out.now b)
        replace Zd := hid (Zd.out.now b)
        replace Zl := hid (Zl.out.now b)
        replace Pa := hid (Pa.out.step b)
        replace PR := hid (PR.out.step b)
        replace PRG := hid (PRG.out.step b)
        replace PRX := hid (PRX.out.step b)
        replace PRY := hid (PRY.out.step b)
        replace Pd := hid (Pd.out.step b)
        replace Pl := hid (Pl.out.step b)
        replace G := hid (below_step G.out b)
        have lz31 := (show Below _ _ _ from b).size
        clear b
        refine wpAnyT_take (i := 0) (oi := { dst := some 71, op := Op.load 25 (Operand.tmp 2), type := 25, pos := "bezout.go:52", after := #[], guard := none }) (v := (.agg #[(.bool na), (.slice ada xa.length ca)])) rfl (by kernel_rfl) (fun _ _ _ h => h) (Or.inl ⟨by rfl, ?_⟩) ⟨Pa.out.c0, Pa.out.c1, Pl.out.c0, Pl.out.c1, PRY.out.c0, PRY.out.c1, Pd.out.c0, Pd.out.c1, (PR.out.at (i := 0) rfl), (PR.out.at (i := 1) rfl), (PR.out.at (i := 2) rfl), (PR.out.at (i := 3) rfl), (PR.out.at (i := 4) rfl), (PR.out.at (i := 5) rfl), (PR.out.at (i := 6) rfl), (PR.out.at (i := 7) rfl)⟩ ?_
        · intro w hSw
          (try dsimp only at hSw)
          go_simp
        simp only [Act.put, List.setIfInBounds_toArray, List.set_cons_zero, List.set_cons_succ]
        refine wpAnyT_take (i := 2) (oi := { dst := some 73, op := Op.load 25 (Operand.tmp 13), type := 25, pos := "bezout.go:52", after := #[{ on := 10, ground := Ground.gcOnly Departure.lateStores }], guard := none }) (v := (.agg #[(.bool nl), (.slice adl xl.length ql)])) rfl (by kernel_rfl) (fun _ _ _ h => h) (Or.inl ⟨by rfl, ?_⟩) ⟨Pa.out.c0, Pa.out.c1, Pl.out.c0, Pl.out.c1, PRY.out.c0, PRY.out.c1, Pd.out.c0, Pd.out.c1, (PR.out.at (i := 0) rfl), (PR.out.at (i := 1) rfl), (PR.out.at (i := 2) rfl), (PR.out.at (i := 3) rfl), (PR.out.at (i := 4) rfl), (PR.out.at (i := 5) rfl), (PR.out.at (i := 6) rfl), (PR.out.at (i := 7) rfl)⟩ ?_
        · intro w hSw
          (try dsimp only at hSw)
          go_simp
        simp only [Act.put, List.setIfInBounds_toArray, List.set_cons_zero, List.set_cons_succ]
        refine wpAnyT_take (i := 3) (oi := { dst := some 74, op := Op.load 25 (Operand.tmp 6), type := 25, pos := "bezout.go:52", after := #[], guard := none }) (v := (.agg #[(.bool nh), (.slice adh xh.length qh)])) rfl (by kernel_rfl) (fun _ _ _ h => h) (Or.inl ⟨by rfl, ?_⟩) ⟨Pa.out.c0, Pa.out.c1, Pl.out.c0, Pl.out.c1, PRY.out.c0, PRY.out.c1, Pd.out.c0, Pd.out.c1, (PR.out.at (i := 0) rfl), (PR.out.at (i := 1) rfl), (PR.out.at (i := 2) rfl), (PR.out.at (i := 3) rfl), (PR.out.at (i := 4) rfl), (PR.out.at (i := 5) rfl), (PR.out.at (i := 6) rfl), (PR.out.at (i := 7) rfl)⟩ ?_
        · intro w hSw
          (try dsimp only at hSw)
          go_simp
        simp only [Act.put, List.setIfInBounds_toArray, List.set_cons_zero, List.set_cons_succ]
        refine wpAnyT_take (i := 4) (oi := { dst := some 75, op := Op.load 25 (Operand.tmp 12), type := 25, pos := "bezout.go:52", after := #[], guard := none }) (v := (.agg #[(.bool nd), (.slice add xd.length qd)])) rfl (by kernel_rfl) (fun _ _ _ h => h) (Or.inl ⟨by rfl, ?_⟩) ⟨Pa.out.c0, Pa.out.c1, Pl.out.c0, Pl.out.c1, PRY.out.c0, PRY.out.c1, Pd.out.c0, Pd.out.c1, (PR.out.at (i := 0) rfl), (PR.out.at (i := 1) rfl), (PR.out.at (i := 2) rfl), (PR.out.at (i := 3) rfl), (PR.out.at (i := 4) rfl), (PR.out.at (i := 5) rfl), (PR.out.at (i := 6) rfl), (PR.out.at (i := 7) rfl)⟩ ?_
        · intro w hSw
          (try dsimp only at hSw)
          go_simp
        simp only [Act.put, List.setIfInBounds_toArray, List.set_cons_zero, List.set_cons_succ]
        refine wpAnyT_take (i := 5) (oi := { dst := some 76, op := Op.indexAddr 54 (Operand.tmp 7) (Operand.const (Value.int IntKind.i64 1)), type := 0, pos := "bezout.go:52", after := #[], guard := none }) (v := (.pointer (some ⟨br, 4, none⟩))) rfl (by kernel_rfl) (fun _ _ _ h => h) (Or.inl ⟨by rfl, ?_⟩) ⟨Pa.out.c0, Pa.out.c1, Pl.out.c0, Pl.out.c1, PRY.out.c0, PRY.out.c1, Pd.out.c0, Pd.out.c1, (PR.out.at (i := 0) rfl), (PR.out.at (i := 1) rfl), (PR.out.at (i := 2) rfl), (PR.out.at (i := 3) rfl), (PR.out.at (i := 4) rfl), (PR.out.at (i := 5) rfl), (PR.out.at (i := 6) rfl), (PR.out.at (i := 7) rfl)⟩ ?_
        · intro w hSw
          (try dsimp only at hSw)
          go_simp
        simp only [Act.put, List.setIfInBounds_toArray, List.set_cons_zero, List.set_cons_succ]
        refine wpAnyT_take (i := 6) (oi := { dst := some 77, op := Op.indexAddr 53 (Operand.tmp 76) (Operand.const (Value.int IntKind.i64 1)), type := 0, pos := "bezout.go:52", after := #[{ on := 5, ground := Ground.data }], guard := none }) (v := (.pointer (some ⟨br, 6, none⟩))) rfl (by kernel_rfl) (fun _ _ _ h => h) (Or.inl ⟨by rfl, ?_⟩) ⟨Pa.out.c0, Pa.out.c1, Pl.out.c0, Pl.out.c1, PRY.out.c0, PRY.out.c1, Pd.out.c0, Pd.out.c1, (PR.out.at (i := 0) rfl), (PR.out.at (i := 1) rfl), (PR.out.at (i := 2) rfl), (PR.out.at (i := 3) rfl), (PR.out.at (i := 4) rfl), (PR.out.at (i := 5) rfl), (PR.out.at (i := 6) rfl), (PR.out.at (i := 7) rfl)⟩ ?_
        · intro w hSw
          (try dsimp only at hSw)
          go_simp
        simp only [Act.put, List.setIfInBounds_toArray, List.set_cons_zero, List.set_cons_succ]
        refine wpAnyT_take (i := 7) (oi := { dst := some 78, op := Op.load 25 (Operand.tmp 77), type := 25, pos := "bezout.go:52", after := #[{ on := 6, ground := Ground.data }], guard := none }) (v := (.agg #[(.bool ns), (.slice ads xs.length cs)])) rfl (by kernel_rfl) (fun _ _ _ h => h) (Or.inl ⟨by rfl, ?_⟩) ⟨Pa.out.c0, Pa.out.c1, Pl.out.c0, Pl.out.c1, PRY.out.c0, PRY.out.c1, Pd.out.c0, Pd.out.c1, (PR.out.at (i := 0) rfl), (PR.out.at (i := 1) rfl), (PR.out.at (i := 2) rfl), (PR.out.at (i := 3) rfl), (PR.out.at (i := 4) rfl), (PR.out.at (i := 5) rfl), (PR.out.at (i := 6) rfl), (PR.out.at (i := 7) rfl)⟩ ?_
        · intro w hSw
          (try dsimp only at hSw)
          go_simp
        simp only [Act.put, List.setIfInBounds_toArray, List.set_cons_zero, List.set_cons_succ]
        refine wpAnyT_one (i := 1) (o := { dst := some 72, op := Op.call { callee := Callee.value (Operand.func 31), args := #[Operand.tmp 71], argTypes := #[25] }, type := 25, pos := "bezout.go:52", after := #[{ on := 0, ground := Ground.data }], guard := none }) (by kernel_rfl) rfl (fun K hK => ?_)
        go_simp
        go_at_call 31
        refine (abs_z Za.out).mono ?_
        rintro e w32 ⟨r0, rfl, m0, b⟩
        obtain ⟨ng, xg, adg, qg, rfl, -, -, -, -, -⟩ := id m0
        replace Za := hid (Za.out.now b)
        replace Zp := hid (Zp.out.now b)
        replace Zq := hid (Zq.out.now b)
        replace Zr := hid (Zr.out.now b)
        replace Zs := hid (Zs.out.now b)
        replace Zm := hid (Zm.out.now b)
        replace Zh := hid (Zh.out.now b)
        replace Zd := hid (Zd.out.now b)
        replace Zl := hid (Zl.out.now b)
        replace Pa := hid (Pa.out.step b)
        replace PR := hid (PR.out.step b)
        replace PRG := hid (PRG.out.step b)
        replace PRX := hid (PRX.out.step b)
        replace PRY := hid (PRY.out.step b)
        replace Pd := hid (Pd.out.step b)
        replace Pl := hid (Pl.out.step b)
        replace G := hid (below_step G.out b)
        have lz33 := (show Below _ _ _ from b).size
        have Zg := hid m0
        clear b m0
        refine hK.out _ _ (fun _ => ⟨Pa.out.c0, Pa.out.c1, Pl.out.c0, Pl.out.c1, PRY.out.c0, PRY.out.c1, Pd.out.c0, Pd.out.c1, (PR.out.at (i := 0) rfl), (PR.out.at (i := 1) rfl), (PR.out.at (i := 2) rfl), (PR.out.at (i := 3) rfl), (PR.out.at (i := 4) rfl), (PR.out.at (i := 5) rfl), (PR.out.at (i := 6) rfl), (PR.out.at (i := 7) rfl)⟩) ?_
        clear hK
        refine wpAnyT_one (i := 8) (o := { dst := some 79, op := Op.call { callee := Callee.value (Operand.func 22), args := #[Operand.tmp 75, Operand.tmp 78], argTypes := #[25, 25] }, type := 25, pos := "bezout.go:52", after := #[{ on := 4, ground := Ground.data }, { on := 7, ground := Ground.data }, { on := 1, ground := Ground.chain }], guard := none }) (by kernel_rfl) rfl (fun K hK => ?_)
        go_simp
        go_at_call 22
        refine (mul_z Zd.out.zi Zs.out (by omega)).mono ?_
        rintro e w34 ⟨r0, rfl, m0, b⟩
        obtain ⟨ne, xe, ade, qe, rfl, -, -, -, -, -⟩ := id m0
        replace Za := hid (Za.out.now b)
        replace Zp := hid (Zp.out.now b)
        replace Zq := hid (Zq.out.now b)
        replace Zr := hid (Zr.out.now b)
        replace Zs := hid (Zs.out.now b)
        replace Zm := hid (Zm.out.now b)
        replace Zh := hid (Zh.out.now b)
        replace Zd := hid (Zd.out.now b)
        replace Zl := hid (Zl.out.now b)
        replace Zg := hid (Zg.out.now b)
        replace Pa := hid (Pa.out.step b)
        replace PR := hid (PR.out.step b)
        replace PRG := hid (PRG.out.step b)
        replace PRX := hid (PRX.out.step b)
        replace PRY := hid (PRY.out.step b)
        replace Pd := hid (Pd.out.step b)
        replace Pl := hid (Pl.out.step b)
        replace G := hid (below_step G.out b)
        have lz35 := (show Below _ _ _ from b).size
        have Ze := hid m0
        clear b m0
        refine hK.out _ _ (fun _ => ⟨Pa.out.c0, Pa.out.c1, Pl.out.c0, Pl.out.c1, PRY.out.c0, PRY.out.c1, Pd.out.c0, Pd.out.c1, (PR.out.at (i := 0) rfl), (PR.out.at (i := 1) rfl), (PR.out.at (i := 2) rfl), (PR.out.at (i := 3) rfl), (PR.out.at (i := 4) rfl), (PR.out.at (i := 5) rfl), (PR.out.at (i := 6) rfl), (PR.out.at (i := 7) rfl)⟩) ?_
        clear hK
        refine wpAnyT_one (i := 9) (o := { dst := some 80, op := Op.call { callee := Callee.value (Operand.func 38), args := #[Operand.tmp 74, Operand.tmp 79], argTypes := #[25, 25] }, type := 25, pos := "bezout.go:52", after := #[{ on := 3, ground := Ground.data }, { on := 8, ground := Ground.data }, { on := 8, ground := Ground.chain }], guard := none }) (by kernel_rfl) rfl (fun K hK => ?_)
        go_simp
        go_at_call 38
        refine (sub_z Zh.out.zi Ze.out.zi (by omega) (by omega)).mono ?_
        rintro e w36 ⟨r0, rfl, m0, b⟩
        obtain ⟨nf, xf, adf, qf, rfl, -, -, -, -, -⟩ := id m0
        replace Za := hid (Za.out.now b)
        replace Zp := hid (Zp.out.now b)
        replace Zq := hid (Zq.out.now b)
        replace Zr := hid (Zr.out.now b)
        replace Zs := hid (Zs.out.now b)
        replace Zm := hid (Zm.out.now b)
        replace Zh := hid (Zh.out.now b)
        replace Zd := hid (Zd.out.now b)
        replace Zl := hid (Zl.out.now b)
        replace Zg := hid (Zg.out.now b)
        replace Ze := hid (Ze.out.now b)
        replace Pa := hid (Pa.out.step b)
        replace PR := hid (PR.out.step b)
        replace PRG := hid (PRG.out.step b)
        replace PRX := hid (PRX.out.step b)
        replace PRY := hid (PRY.out.step b)
        replace Pd := hid (Pd.out.step b)
        replace Pl := hid (Pl.out.step b)
        replace G := hid (below_step G.out b)
        have lz37 := (show Below _ _ _ from b).size
        have Zf := hid m0
        clear b m0
        refine hK.out _ _ (fun _ => ⟨Pa.out.c0, Pa.out.c1, Pl.out.c0, Pl.out.c1, PRY.out.c0, PRY.out.c1, Pd.out.c0, Pd.out.c1, (PR.out.at (i := 0) rfl), (PR.out.at (i := 1) rfl), (PR.out.at (i := 2) rfl), (PR.out.at (i := 3) rfl), (PR.out.at (i := 4) rfl), (PR.out.at (i := 5) rfl), (PR.out.at (i := 6) rfl), (PR.out.at (i := 7) rfl)⟩) ?_
        clear hK
        refine wpAnyT_one (i := 10) (o := { dst := none, op := Op.store 25 (Operand.tmp 4) (Operand.tmp 72), type := 0, pos := "bezout.go:52", after := #[{ on := 1, ground := Ground.data }, { on := 9, ground := Ground.chain }, { on := 0, ground := Ground.phase }, { on := 1, ground := Ground.phase }, { on := 2, ground := Ground.textOnly Departure.lateStores }, { on := 3, ground := Ground.textOnly Departure.lateStores }, { on := 4, ground := Ground.textOnly Departure.lateStores }, { on := 5, ground := Ground.textOnly Departure.lateStores }, { on := 6, ground := Ground.textOnly Departure.lateStores }, { on := 7, ground := Ground.textOnly Departure.lateStores }, { on := 8, ground := Ground.textOnly Departure.lateStoresUnsure }, { on := 9, ground := Ground.textOnly Departure.lateStoresUnsure }], guard := none }) (by kernel_rfl) rfl (fun K hK => ?_)
        have cRG0 := PRG.out.c0
        have cRG1 := PRG.out.c1
        have fRG0 := PRG.out.fz 0
        have fRG1 := PRG.out.fz 1
        go_simp
        clear cRG0 cRG1 fRG0 fRG1
        obtain ⟨V38, hW⟩ : ∃ V38, (w36.setCell ⟨w.heap.size + 1 + 1, 0, none⟩ (.bool ng)).setCell ⟨w.heap.size + 1 + 1, 1, none⟩ (.slice adg xg.length qg) = V38 := ⟨_, rfl⟩
        replace Za := hid ((Za.out).wk ((PRG.out).wk (.bool ng) (.slice adg xg.length qg)))
        replace Zp := hid ((Zp.out).wk ((PRG.out).wk (.bool ng) (.slice adg xg.length qg)))
        replace Zq := hid ((Zq.out).wk ((PRG.out).wk (.bool ng) (.slice adg xg.length qg)))
        replace Zr := hid ((Zr.out).wk ((PRG.out).wk (.bool ng) (.slice adg xg.length qg)))
        replace Zs := hid ((Zs.out).wk ((PRG.out).wk (.bool ng) (.slice adg xg.length qg)))
        replace Zm := hid ((Zm.out).box (PRG.out) (.bool ng) (.slice adg xg.length qg))
        replace Zh := hid ((Zh.out).box (PRG.out) (.bool ng) (.slice adg xg.length qg))
        replace Zd := hid ((Zd.out).box (PRG.out) (.bool ng) (.slice adg xg.length qg))
        replace Zl := hid ((Zl.out).box (PRG.out) (.bool ng) (.slice adg xg.length qg))
        replace Zg := hid ((Zg.out).box (PRG.out) (.bool ng) (.slice adg xg.length qg))
        replace Ze := hid ((Ze.out).box (PRG.out) (.bool ng) (.slice adg xg.length qg))
        replace Zf := hid ((Zf.out).box (PRG.out) (.bool ng) (.slice adg xg.length qg))
        replace Pa := hid ((Pa.out).box (b' := w.heap.size + 1 + 1) (by omega) (.bool ng) (.slice adg xg.length qg))
        replace PR := hid ((PR.out).away2 (b' := w.heap.size + 1 + 1) (by omega) (.bool ng) (.slice adg xg.length qg))
        replace PRG := hid ((PRG.out).set (.bool ng) (.slice adg xg.length qg))
        replace PRX := hid ((PRX.out).box (b' := w.heap.size + 1 + 1) (by omega) (.bool ng) (.slice adg xg.length qg))
        replace PRY := hid ((PRY.out).box (b' := w.heap.size + 1 + 1) (by omega) (.bool ng) (.slice adg xg.length qg))
        replace Pd := hid ((Pd.out).box (b' := w.heap.size + 1 + 1) (by omega) (.bool ng) (.slice adg xg.length qg))
        replace Pl := hid ((Pl.out).box (b' := w.heap.size + 1 + 1) (by omega) (.bool ng) (.slice adg xg.length qg))
        replace G : Hid (Below w.heap.size w (((w36.setCell ⟨w.heap.size + 1 + 1, 0, none⟩ (.bool ng)).setCell ⟨w.heap.size + 1 + 1, 1, none⟩ (.slice adg xg.length qg)))) := bset (bset (G.out) (by omega)) (by omega)
        have sz38 : V38.heap.size = w36.heap.size := by rw [← hW]; simp
        rw [hW] at Za Zp Zq Zr Zs Zm Zh Zd Zl Zg Ze Zf Pa PR PRG PRX PRY Pd Pl G
        rw [hW]
        clear hW
        refine hK.out _ _ (fun _ => ⟨Pa.out.c0, Pa.out.c1, Pl.out.c0, Pl.out.c1, PRY.out.c0, PRY.out.c1, Pd.out.c0, Pd.out.c1, (PR.out.at (i := 0) rfl), (PR.out.at (i := 1) rfl), (PR.out.at (i := 2) rfl), (PR.out.at (i := 3) rfl), (PR.out.at (i := 4) rfl), (PR.out.at (i := 5) rfl), (PR.out.at (i := 6) rfl), (PR.out.at (i := 7) rfl)⟩) ?_
        clear hK
        try simp only [Act.put]
        refine wpAnyT_one (i := 11) (o := { dst := none, op := Op.store 25 (Operand.tmp 5) (Operand.tmp 73), type := 0, pos := "bezout.go:52", after := #[{ on := 2, ground := Ground.data }, { on := 10, ground := Ground.chain }, { on := 0, ground := Ground.phase }, { on := 1, ground := Ground.phase }, { on := 2, ground := Ground.phase }, { on := 3, ground := Ground.textOnly Departure.lateStores }, { on := 4, ground := Ground.textOnly Departure.lateStores }, { on := 5, ground := Ground.textOnly Departure.lateStores }, { on := 6, ground := Ground.textOnly Departure.lateStores }, { on := 7, ground := Ground.textOnly Departure.lateStores }, { on := 8, ground := Ground.textOnly Departure.lateStoresUnsure }, { on := 9, ground := Ground.textOnly Departure.lateStoresUnsure }, { on := 10, ground := Ground.phase }], guard := none }) (by kernel_rfl) rfl (fun K hK => ?_)
        have cRX0 := PRX.out.c0
        have cRX1 := PRX.out.c1
        have fRX0 := PRX.out.fz 0
        have fRX1 := PRX.out.fz 1
        go_simp
        clear cRX0 cRX1 fRX0 fRX1
        obtain ⟨V39, hW⟩ : ∃ V39, (V38.setCell ⟨w.heap.size + 1 + 1 + 1, 0, none⟩ (.bool nl)).setCell ⟨w.heap.size + 1 + 1 + 1, 1, none⟩ (.slice adl xl.length ql) = V39 := ⟨_, rfl⟩
        replace Za := hid ((Za.out).wk ((PRX.out).wk (.bool nl) (.slice adl xl.length ql)))
        replace Zp := hid ((Zp.out).wk ((PRX.out).wk (.bool nl) (.slice adl xl.length ql)))
        replace Zq := hid ((Zq.out).wk ((PRX.out).wk (.bool nl) (.slice adl xl.length ql)))
        replace Zr := hid ((Zr.out).wk ((PRX.out).wk (.bool nl) (.slice adl xl.length ql)))
        replace Zs := hid ((Zs.out).wk ((PRX.out).wk (.bool nl) (.slice adl xl.length ql)))
        replace Zm := hid ((Zm.out).box (PRX.out) (.bool nl) (.slice adl xl.length ql))
        replace Zh := hid ((Zh.out).box (PRX.out) (.bool nl) (.slice adl xl.length ql))
        replace Zd := hid ((Zd.out).box (PRX.out) (.bool nl) (.slice adl xl.length ql))
        replace Zl := hid ((Zl.out).box (PRX.out) (.bool nl) (.slice adl xl.length ql))
        replace Zg := hid ((Zg.out).box (PRX.out) (.bool nl) (.slice adl xl.length ql))
        replace Ze := hid ((Ze.out).box (PRX.out) (.bool nl) (.slice adl xl.length ql))
        replace Zf := hid ((Zf.out).box (PRX.out) (.bool nl) (.slice adl xl.length ql))
        replace Pa := hid ((Pa.out).box (b' := w.heap.size + 1 + 1 + 1) (by omega) (.bool nl) (.slice adl xl.length ql))
        replace PR := hid ((PR.out).away2 (b' := w.heap.size + 1 + 1 + 1) (by omega) (.bool nl) (.slice adl xl.length ql))
        replace PRG := hid ((PRG.out).box (b' := w.heap.size + 1 + 1 + 1) (by omega) (.bool nl) (.slice adl xl.length ql))
        replace PRX := hid ((PRX.out).set (.bool nl) (.slice adl xl.length ql))
        replace PRY := hid ((PRY.out).box (b' := w.heap.size + 1 + 1 + 1) (by omega) (.bool nl) (.slice adl xl.length ql))
        replace Pd := hid ((Pd.out).box (b' := w.heap.size + 1 + 1 + 1) (by omega) (.bool nl) (.slice adl xl.length ql))
        replace Pl := hid ((Pl.out).box (b' := w.heap.size + 1 + 1 + 1) (by omega) (.bool nl) (.slice adl xl.length ql))
        replace G : Hid (Below w.heap.size w (((V38.setCell ⟨w.heap.size + 1 + 1 + 1, 0, none⟩ (.bool nl)).setCell ⟨w.heap.size + 1 + 1 + 1, 1, none⟩ (.slice adl xl.length ql)))) := bset (bset (G.out) (by omega)) (by omega)
        have sz39 : V39.heap.size = V38.heap.size := by rw [← hW]; simp
        rw [hW] at Za Zp Zq Zr Zs Zm Zh Zd Zl Zg Ze Zf Pa PR PRG PRX PRY Pd Pl G
        rw [hW]
        clear hW
        refine hK.out _ _ (fun h => absurd h (by decide)) ?_
        clear hK
        try simp only [Act.put]
        refine wpAnyT_one (i := 12) (o := { dst := none, op := Op.store 25 (Operand.tmp 6) (Operand.tmp 80), type := 0, pos := "bezout.go:52", after := #[{ on := 9, ground := Ground.data }, { on := 11, ground := Ground.chain }, { on := 0, ground := Ground.phase }, { on := 1, ground := Ground.phase }, { on := 2, ground := Ground.phase }, { on := 3, ground := Ground.phase }, { on := 4, ground := Ground.phase }, { on := 5, ground := Ground.phase }, { on := 6, ground := Ground.phase }, { on := 7, ground := Ground.phase }, { on := 8, ground := Ground.phase }, { on := 9, ground := Ground.phase }, { on := 10, ground := Ground.phase }, { on := 11, ground := Ground.phase }], guard := none }) (by kernel_rfl) rfl (fun K hK => ?_)
        have cRY0 := PRY.out.c0
        have cRY1 := PRY.out.c1
        have fRY0 := PRY.out.fz 0
        have fRY1 := PRY.out.fz 1
        go_simp
        clear cRY0 cRY1 fRY0 fRY1
        obtain ⟨V40, hW⟩ : ∃ V40, (V39.setCell ⟨w.heap.size + 1 + 1 + 1 + 1, 0, none⟩ (.bool nf)).setCell ⟨w.heap.size + 1 + 1 + 1 + 1, 1, none⟩ (.slice adf xf.length qf) = V40 := ⟨_, rfl⟩
        replace Za := hid ((Za.out).wk ((PRY.out).wk (.bool nf) (.slice adf xf.length qf)))
        replace Zp := hid ((Zp.out).wk ((PRY.out).wk (.bool nf) (.slice adf xf.length qf)))
        replace Zq := hid ((Zq.out).wk ((PRY.out).wk (.bool nf) (.slice adf xf.length qf)))
        replace Zr := hid ((Zr.out).wk ((PRY.out).wk (.bool nf) (.slice adf xf.length qf)))
        replace Zs := hid ((Zs.out).wk ((PRY.out).wk (.bool nf) (.slice adf xf.length qf)))
        replace Zm := hid ((Zm.out).box (PRY.out) (.bool nf) (.slice adf xf.length qf))
        replace Zh := hid ((Zh.out).box (PRY.out) (.bool nf) (.slice adf xf.length qf))
        replace Zd := hid ((Zd.out).box (PRY.out) (.bool nf) (.slice adf xf.length qf))
        replace Zl := hid ((Zl.out).box (PRY.out) (.bool nf) (.slice adf xf.length qf))
        replace Zg := hid ((Zg.out).box (PRY.out) (.bool nf) (.slice adf xf.length qf))
        replace Ze := hid ((Ze.out).box (PRY.out) (.bool nf) (.slice adf xf.length qf))
        replace Zf := hid ((Zf.out).box (PRY.out) (.bool nf) (.slice adf xf.length qf))
        replace Pa := hid ((Pa.out).box (b' := w.heap.size + 1 + 1 + 1 + 1) (by omega) (.bool nf) (.slice adf xf.length qf))
        replace PR := hid ((PR.out).away2 (b' := w.heap.size + 1 + 1 + 1 + 1) (by omega) (.bool nf) (.slice adf xf.length qf))
        replace PRG := hid ((PRG.out).box (b' := w.heap.size + 1 + 1 + 1 + 1) (by omega) (.bool nf) (.slice adf xf.length qf))
        replace PRX := hid ((PRX.out).box (b' := w.heap.size + 1 + 1 + 1 + 1) (by omega) (.bool nf) (.slice adf xf.length qf))
        replace PRY := hid ((PRY.out).set (.bool nf) (.slice adf xf.length qf))
        replace Pd := hid ((Pd.out).box (b' := w.heap.size + 1 + 1 + 1 + 1) (by omega) (.bool nf) (.slice adf xf.length qf))
        replace Pl := hid ((Pl.out).box (b' := w.heap.size + 1 + 1 + 1 + 1) (by omega) (.bool nf) (.slice adf xf.length qf))
        replace G : Hid (Below w.heap.size w (((V39.setCell ⟨w.heap.size + 1 + 1 + 1 + 1, 0, none⟩ (.bool nf)).setCell ⟨w.heap.size + 1 + 1 + 1 + 1, 1, none⟩ (.slice adf xf.length qf)))) := bset (bset (G.out) (by omega)) (by omega)
        have sz40 : V40.heap.size = V39.heap.size := by rw [← hW]; simp
        rw [hW] at Za Zp Zq Zr Zs Zm Zh Zd Zl Zg Ze Zf Pa PR PRG PRX PRY Pd Pl G
        rw [hW]
        clear hW
        refine hK.out _ _ (fun h => absurd h (by decide)) ?_
        clear hK
        try simp only [Act.put]
        refine wpAnyT_done (by kernel_rfl) ?_ _
        have YL := hid (Zl.out.fit (fits SM.out.1 LB.out L1.out))
        have YF := hid (Zf.out.fit (fits SM.out.2.1 LA.out L1.out))
        go_wp2
        exact bodyPost_ret (zback3 Try.results20 PRG.out PRX.out PRY.out _ (by rfl) (by rfl) (by rfl)) rfl ⟨_, _, _, _, _, _, FIN.out, rfl, Zg.out.mono (by omega), YL.out.mono (by omega), YF.out.mono (by omega), G.out⟩
    · skip
      have HST := hid (HI.out.step hz)
      have HNZ := hid hz
      have HS : Hid (∀ w' v k, Zi w' v zb k → _) := fun (w' : World) (v : Value) (k : Nat) (h : Zi w' v zb k) => sign_z h
      have q1 : (cmpI zb 0 != 0) = true := by simp; exact fun e => hz (cmpI_zero e)
      generalize cmpI zb 0 = C at *
      clear HI hz
      have cb0 := Pb.out.c0
      have cb1 := Pb.out.c1
      go_wp2_with fail
      clear cb0 cb1
      refine (HS.out _ _ _ Zb.out).mono ?_
      rintro e w10 ⟨rfl, b⟩
      replace Za := hid (Za.out.now b)
      replace Zb := hid (Zb.out.now b)
      replace Zp := hid (Zp.out.now b)
      replace Zq := hid (Zq.out.now b)
      replace Zr := hid (Zr.out.now b)
      replace Zs := hid (Zs.out.now b)
      replace Pa := hid (Pa.out.step b)
      replace Pb := hid (Pb.out.step b)
      replace PR := hid (PR.out.step b)
      replace PRG := hid (PRG.out.step b)
      replace PRX := hid (PRX.out.step b)
      replace PRY := hid (PRY.out.step b)
      replace G := hid (below_step G.out b)
      have lz11 := (show Below _ _ _ from b).size
      clear b 
      clear HS
      have ca0 := Pa.out.c0
      have ca1 := Pa.out.c1
      have cb0 := Pb.out.c0
      have cb1 := Pb.out.c1
      go_wp2_with fail
      clear ca0 ca1 cb0 cb1
      refine (trunc_z Za.out Zb.out HNZ.out (by omega) (by omega)).mono ?_
      rintro e w12 ⟨r0, r1, rfl, m0, m1, b⟩
      obtain ⟨nu, xu, adu, qu, rfl, -, -, -, -, -⟩ := id m0
      obtain ⟨nt, xt, adt, qt, rfl, -, -, -, -, -⟩ := id m1
      replace Za := hid (Za.out.now b)
      replace Zb := hid (Zb.out.now b)
      replace Zp := hid (Zp.out.now b)
      replace Zq := hid (Zq.out.now b)
      replace Zr := hid (Zr.out.now b)
      replace Zs := hid (Zs.out.now b)
      replace Pa := hid (Pa.out.step b)
      replace Pb := hid (Pb.out.step b)
      replace PR := hid (PR.out.step b)
      replace PRG := hid (PRG.out.step b)
      replace PRX := hid (PRX.out.step b)
      replace PRY := hid (PRY.out.step b)
      replace G := hid (below_step G.out b)
      have lz13 := (show Below _ _ _ from b).size
      have Zu := hid m0
      have Zt := hid m1
      clear b m0 m1
      obtain ⟨V14, hW⟩ : ∃ V14, (w12.alloc (duo (.bool nu) (.slice adu xu.length qu))).alloc (duo (.bool nt) (.slice adt xt.length qt)) = V14 := ⟨_, rfl⟩
      obtain ⟨kW, sz14⟩ := alloc2 w12 (duo (.bool nu) (.slice adu xu.length qu)) (duo (.bool nt) (.slice adt xt.length qt))
      rw [hW] at kW sz14
      replace Za := hid (Za.out.now kW)
      replace Zb := hid (Zb.out.now kW)
      replace Zp := hid (Zp.out.now kW)
      replace Zq := hid (Zq.out.now kW)
      replace Zr := hid (Zr.out.now kW)
      replace Zs := hid (Zs.out.now kW)
      replace Zu := hid (Zu.out.now kW)
      replace Zt := hid (Zt.out.now kW)
      replace Pa := hid (Pa.out.step kW)
      replace Pb := hid (Pb.out.step kW)
      replace PR := hid (PR.out.step kW)
      replace PRG := hid (PRG.out.step kW)
      replace PRX := hid (PRX.out.step kW)
      replace PRY := hid (PRY.out.step kW)
      replace G := hid (below_step G.out kW)
      have lz15 := (show Below _ _ _ from kW).size
      have Pu : Hid (Duo V14 (w12.heap.size) (.bool nu) (.slice adu xu.length qu)) := by unfold Hid; rw [← hW]; exact duo_late (duo_at (by simp)) _
      have Pt : Hid (Duo V14 (w12.heap.size + 1) (.bool nt) (.slice adt xt.length qt)) := by unfold Hid; rw [← hW]; exact duo_at (by simp)
      clear kW
      have EW := hid hW
      clear hW
      go_wp2_with fail
      rw [EW.out]
      clear EW
      refine wp_region_tail (fun w' => w'.cell? ⟨w.heap.size + 1, 0, none⟩ = some (.bool nb) ∧ w'.cell? ⟨w.heap.size + 1, 1, none⟩ = some (.slice adb xb.length cb) ∧ w'.cell? ⟨w12.heap.size + 1, 0, none⟩ = some (.bool nt) ∧ w'.cell? ⟨w12.heap.size + 1, 1, none⟩ = some (.slice adt xt.length qt)) 3 (by kernel_rfl) ?_
      obtain ⟨D16, hD⟩ : ∃ D16, V14.drew = D16 := ⟨_, rfl⟩
      have b : Below V14.heap.size V14 D16 := by rw [← hD]; exact (Below.refl _ _).drew
      rw [hD]
      clear hD
      replace Za := hid (Za.out.now b)
      replace Zb := hid (Zb.out.now b)
      replace Zp := hid (Zp.out.now b)
      replace Zq := hid (Zq.out.now b)
      replace Zr := hid (Zr.out.now b)
      replace Zs := hid (Zs.out.now b)
      replace Zu := hid (Zu.out.now b)
      replace Zt := hid (Zt.out.now b)
      replace Pa := hid (Pa.out.step b)
      replace Pb := hid (Pb.out.step b)
      replace PR := hid (PR.out.step b)
      replace PRG := hid (PRG.out.step b)
      replace PRX := hid (PRX.out.step b)
      replace PRY := hid (PRY.out.step b)
      replace Pu := hid (Pu.out.step b)
      replace Pt := hid (Pt.out.step b)
      replace G := hid (below_step G.out b)
      have lz17 := (show Below _ _ _ from b).size
      clear b
      refine wpAnyT_take (i := 0) (oi := { dst := some 32, op := Op.load 25 (Operand.tmp 3), type := 25, pos := "bezout.go:40", after := #[], guard := none }) (v := (.agg #[(.bool nb), (.slice adb xb.length cb)])) rfl (by kernel_rfl) (fun _ _ _ h => h) (Or.inl ⟨by rfl, ?_⟩) ⟨Pb.out.c0, Pb.out.c1, Pt.out.c0, Pt.out.c1⟩ ?_
      · intro w hSw
        (try dsimp only at hSw)
        go_simp
      simp only [Act.put, List.setIfInBounds_toArray, List.set_cons_zero, List.set_cons_succ]
      refine wpAnyT_take (i := 1) (oi := { dst := some 33, op := Op.load 25 (Operand.tmp 9), type := 25, pos := "bezout.go:40", after := #[{ on := 2, ground := Ground.gcOnly Departure.lateStores }], guard := none }) (v := (.agg #[(.bool nt), (.slice adt xt.length qt)])) rfl (by kernel_rfl) (fun _ _ _ h => h) (Or.inl ⟨by rfl, ?_⟩) ⟨Pb.out.c0, Pb.out.c1, Pt.out.c0, Pt.out.c1⟩ ?_
      · intro w hSw
        (try dsimp only at hSw)
        go_simp
      simp only [Act.put, List.setIfInBounds_toArray, List.set_cons_zero, List.set_cons_succ]
      refine wpAnyT_one (i := 2) (o := { dst := none, op := Op.store 25 (Operand.tmp 2) (Operand.tmp 32), type := 0, pos := "bezout.go:40", after := #[{ on := 0, ground := Ground.data }, { on := 0, ground := Ground.phase }, { on := 1, ground := Ground.textOnly Departure.lateStores }], guard := none }) (by kernel_rfl) rfl (fun K hK => ?_)
      have ca0 := Pa.out.c0
      have ca1 := Pa.out.c1
      have fa0 := Pa.out.fz 0
      have fa1 := Pa.out.fz 1
      go_simp
      clear ca0 ca1 fa0 fa1
      obtain ⟨V18, hW⟩ : ∃ V18, (D16.setCell ⟨w.heap.size, 0, none⟩ (.bool nb)).setCell ⟨w.heap.size, 1, none⟩ (.slice adb xb.length cb) = V18 := ⟨_, rfl⟩
      replace Za := hid ((Za.out).wk ((Pa.out).wk (.bool nb) (.slice adb xb.length cb)))
      replace Zb := hid ((Zb.out).wk ((Pa.out).wk (.bool nb) (.slice adb xb.length cb)))
      replace Zp := hid ((Zp.out).wk ((Pa.out).wk (.bool nb) (.slice adb xb.length cb)))
      replace Zq := hid ((Zq.out).wk ((Pa.out).wk (.bool nb) (.slice adb xb.length cb)))
      replace Zr := hid ((Zr.out).wk ((Pa.out).wk (.bool nb) (.slice adb xb.length cb)))
      replace Zs := hid ((Zs.out).wk ((Pa.out).wk (.bool nb) (.slice adb xb.length cb)))
      replace Zu := hid ((Zu.out).box (Pa.out) (.bool nb) (.slice adb xb.length cb))
      replace Zt := hid ((Zt.out).box (Pa.out) (.bool nb) (.slice adb xb.length cb))
      replace Pa := hid ((Pa.out).set (.bool nb) (.slice adb xb.length cb))
      replace Pb := hid ((Pb.out).box (b' := w.heap.size) (by omega) (.bool nb) (.slice adb xb.length cb))
      replace PR := hid ((PR.out).away2 (b' := w.heap.size) (by omega) (.bool nb) (.slice adb xb.length cb))
      replace PRG := hid ((PRG.out).box (b' := w.heap.size) (by omega) (.bool nb) (.slice adb xb.length cb))
      replace PRX := hid ((PRX.out).box (b' := w.heap.size) (by omega) (.bool nb) (.slice adb xb.length cb))
      replace PRY := hid ((PRY.out).box (b' := w.heap.size) (by omega) (.bool nb) (.slice adb xb.length cb))
      replace Pu := hid ((Pu.out).box (b' := w.heap.size) (by omega) (.bool nb) (.slice adb xb.length cb))
      replace Pt := hid ((Pt.out).box (b' := w.heap.size) (by omega) (.bool nb) (.slice adb xb.length cb))
      replace G : Hid (Below w.heap.size w (((D16.setCell ⟨w.heap.size, 0, none⟩ (.bool nb)).setCell ⟨w.heap.size, 1, none⟩ (.slice adb xb.length cb)))) := bset (bset (G.out) (by omega)) (by omega)
      have sz18 : V18.heap.size = D16.heap.size := by rw [← hW]; simp
      rw [hW] at Za Zb Zp Zq Zr Zs Zu Zt Pa Pb PR PRG PRX PRY Pu Pt G
      rw [hW]
      clear hW
      refine hK.out _ _ (fun _ => ⟨Pb.out.c0, Pb.out.c1, Pt.out.c0, Pt.out.c1⟩) ?_
      clear hK
      try simp only [Act.put]
      refine wpAnyT_one (i := 3) (o := { dst := none, op := Op.store 25 (Operand.tmp 3) (Operand.tmp 33), type := 0, pos := "bezout.go:40", after := #[{ on := 1, ground := Ground.data }, { on := 2, ground := Ground.chain }, { on := 0, ground := Ground.phase }, { on := 1, ground := Ground.phase }, { on := 2, ground := Ground.phase }], guard := none }) (by kernel_rfl) rfl (fun K hK => ?_)
      have cb0 := Pb.out.c0
      have cb1 := Pb.out.c1
      have fb0 := Pb.out.fz 0
      have fb1 := Pb.out.fz 1
      go_simp
      clear cb0 cb1 fb0 fb1
      obtain ⟨V19, hW⟩ : ∃ V19, (V18.setCell ⟨w.heap.size + 1, 0, none⟩ (.bool nt)).setCell ⟨w.heap.size + 1, 1, none⟩ (.slice adt xt.length qt) = V19 := ⟨_, rfl⟩
      replace Za := hid ((Za.out).wk ((Pb.out).wk (.bool nt) (.slice adt xt.length qt)))
      replace Zb := hid ((Zb.out).wk ((Pb.out).wk (.bool nt) (.slice adt xt.length qt)))
      replace Zp := hid ((Zp.out).wk ((Pb.out).wk (.bool nt) (.slice adt xt.length qt)))
      replace Zq := hid ((Zq.out).wk ((Pb.out).wk (.bool nt) (.slice adt xt.length qt)))
      replace Zr := hid ((Zr.out).wk ((Pb.out).wk (.bool nt) (.slice adt xt.length qt)))
      replace Zs := hid ((Zs.out).wk ((Pb.out).wk (.bool nt) (.slice adt xt.length qt)))
      replace Zu := hid ((Zu.out).box (Pb.out) (.bool nt) (.slice adt xt.length qt))
      replace Zt := hid ((Zt.out).box (Pb.out) (.bool nt) (.slice adt xt.length qt))
      replace Pa := hid ((Pa.out).box (b' := w.heap.size + 1) (by omega) (.bool nt) (.slice adt xt.length qt))
      replace Pb := hid ((Pb.out).set (.bool nt) (.slice adt xt.length qt))
      replace PR := hid ((PR.out).away2 (b' := w.heap.size + 1) (by omega) (.bool nt) (.slice adt xt.length qt))
      replace PRG := hid ((PRG.out).box (b' := w.heap.size + 1) (by omega) (.bool nt) (.slice adt xt.length qt))
      replace PRX := hid ((PRX.out).box (b' := w.heap.size + 1) (by omega) (.bool nt) (.slice adt xt.length qt))
      replace PRY := hid ((PRY.out).box (b' := w.heap.size + 1) (by omega) (.bool nt) (.slice adt xt.length qt))
      replace Pu := hid ((Pu.out).box (b' := w.heap.size + 1) (by omega) (.bool nt) (.slice adt xt.length qt))
      replace Pt := hid ((Pt.out).box (b' := w.heap.size + 1) (by omega) (.bool nt) (.slice adt xt.length qt))
      replace G : Hid (Below w.heap.size w (((V18.setCell ⟨w.heap.size + 1, 0, none⟩ (.bool nt)).setCell ⟨w.heap.size + 1, 1, none⟩ (.slice adt xt.length qt)))) := bset (bset (G.out) (by omega)) (by omega)
      have sz19 : V19.heap.size = V18.heap.size := by rw [← hW]; simp
      rw [hW] at Za Zb Zp Zq Zr Zs Zu Zt Pa Pb PR PRG PRX PRY Pu Pt G
      rw [hW]
      clear hW
      refine hK.out _ _ (fun h => absurd h (by decide)) ?_
      clear hK
      try simp only [Act.put]
      refine wpAnyT_done (by kernel_rfl) ?_ _
      clear Za
      go_wp2_with fail
      replace Zu := hid Zu.out.zi
      replace Zt := hid Zt.out.zi
      refine wp_region_tail (fun w' => w'.cell? ⟨br, 0, none⟩ = some (.bool np) ∧ w'.cell? ⟨br, 1, none⟩ = some (.slice adp xp.length cp) ∧ w'.cell? ⟨br, 2, none⟩ = some (.bool nq) ∧ w'.cell? ⟨br, 3, none⟩ = some (.slice adq xq.length cq) ∧ w'.cell? ⟨br, 4, none⟩ = some (.bool nr) ∧ w'.cell? ⟨br, 5, none⟩ = some (.slice adr xr.length cr) ∧ w'.cell? ⟨br, 6, none⟩ = some (.bool ns) ∧ w'.cell? ⟨br, 7, none⟩ = some (.slice ads xs.length cs) ∧ w'.cell? ⟨w12.heap.size, 0, none⟩ = some (.bool nu) ∧ w'.cell? ⟨w12.heap.size, 1, none⟩ = some (.slice adu xu.length qu)) 9 (by kernel_rfl) ?_
      obtain ⟨D20, hD⟩ : ∃ D20, V19.drew = D20 := ⟨_, rfl⟩
      have b : Below V19.heap.size V19 D20 := by rw [← hD]; exact (Below.refl _ _).drew
      rw [hD]
      clear hD
      replace Zb := hid (Zb.out.now b)
      replace Zp := hid (Zp.out.now b)
      replace Zq := hid (Zq.out.now b)
      replace Zr := hid (Zr.out.now b)
      replace Zs := hid (Zs.out.now b)
      replace Zu := hid (Zu.out.now b)
      replace Zt := hid (Zt.out.now b)
      replace Pa := hid (Pa.out.step b)
      replace Pb := hid (Pb.out.step b)
      replace PR := hid (PR.out.step b)
      replace PRG := hid (PRG.out.step b)
      replace PRX := hid (PRX.out.step b)
      replace PRY := hid (PRY.out.step b)
      replace Pu := hid (Pu.out.step b)
      replace Pt := hid (Pt.out.step b)
      replace G := hid (below_step G.out b)
      have lz21 := (show Below _ _ _ from b).size
      clear b
      refine wpAnyT_take (i := 0) (oi := { dst := some 34, op := Op.indexAddr 54 (Operand.tmp 7) (Operand.const (Value.int IntKind.i64 1)), type := 0, pos := "bezout.go:41", after := #[], guard := none }) (v := (.pointer (some ⟨br, 4, none⟩))) rfl (by kernel_rfl) (fun _ _ _ h => h) (Or.inl ⟨by rfl, ?_⟩) ⟨(PR.out.at (i := 0) rfl), (PR.out.at (i := 1) rfl), (PR.out.at (i := 2) rfl), (PR.out.at (i := 3) rfl), (PR.out.at (i := 4) rfl), (PR.out.at (i := 5) rfl), (PR.out.at (i := 6) rfl), (PR.out.at (i := 7) rfl), Pu.out.c0, Pu.out.c1⟩ ?_
      · intro w hSw
        (try dsimp only at hSw)
        go_simp
      simp only [Act.put, List.setIfInBounds_toArray, List.set_cons_zero, List.set_cons_succ]
      refine wpAnyT_take (i := 1) (oi := { dst := some 35, op := Op.load 53 (Operand.tmp 34), type := 53, pos := "bezout.go:41", after := #[{ on := 0, ground := Ground.data }], guard := none }) (v := (.agg #[(.bool nr), (.slice adr xr.length cr), (.bool ns), (.slice ads xs.length cs)])) rfl (by kernel_rfl) (fun _ _ _ h => h) (Or.inl ⟨by rfl, ?_⟩) ⟨(PR.out.at (i := 0) rfl), (PR.out.at (i := 1) rfl), (PR.out.at (i := 2) rfl), (PR.out.at (i := 3) rfl), (PR.out.at (i := 4) rfl), (PR.out.at (i := 5) rfl), (PR.out.at (i := 6) rfl), (PR.out.at (i := 7) rfl), Pu.out.c0, Pu.out.c1⟩ ?_
      · intro w hSw
        (try dsimp only at hSw)
        go_simp
      simp only [Act.put, List.setIfInBounds_toArray, List.set_cons_zero, List.set_cons_succ]
      refine wpAnyT_take (i := 2) (oi := { dst := some 36, op := Op.indexAddr 54 (Operand.tmp 7) (Operand.const (Value.int IntKind.i64 0)), type := 0, pos := "bezout.go:41", after := #[], guard := none }) (v := (.pointer (some ⟨br, 0, none⟩))) rfl (by kernel_rfl) (fun _ _ _ h => h) (Or.inl ⟨by rfl, ?_⟩) ⟨(PR.out.at (i := 0) rfl), (PR.out.at (i := 1) rfl), (PR.out.at (i := 2) rfl), (PR.out.at (i := 3) rfl), (PR.out.at (i := 4) rfl), (PR.out.at (i := 5) rfl), (PR.out.at (i := 6) rfl), (PR.out.at (i := 7) rfl), Pu.out.c0, Pu.out.c1⟩ ?_
      · intro w hSw
        (try dsimp only at hSw)
        go_simp
      simp only [Act.put, List.setIfInBounds_toArray, List.set_cons_zero, List.set_cons_succ]
      refine wpAnyT_take (i := 3) (oi := { dst := some 37, op := Op.load 53 (Operand.tmp 36), type := 53, pos := "bezout.go:41", after := #[{ on := 2, ground := Ground.data }], guard := none }) (v := (.agg #[(.bool np), (.slice adp xp.length cp), (.bool nq), (.slice adq xq.length cq)])) rfl (by kernel_rfl) (fun _ _ _ h => h) (Or.inl ⟨by rfl, ?_⟩) ⟨(PR.out.at (i := 0) rfl), (PR.out.at (i := 1) rfl), (PR.out.at (i := 2) rfl), (PR.out.at (i := 3) rfl), (PR.out.at (i := 4) rfl), (PR.out.at (i := 5) rfl), (PR.out.at (i := 6) rfl), (PR.out.at (i := 7) rfl), Pu.out.c0, Pu.out.c1⟩ ?_
      · intro w hSw
        (try dsimp only at hSw)
        go_simp
      simp only [Act.put, List.setIfInBounds_toArray, List.set_cons_zero, List.set_cons_succ]
      refine wpAnyT_take (i := 4) (oi := { dst := some 38, op := Op.load 25 (Operand.tmp 8), type := 25, pos := "bezout.go:41", after := #[], guard := none }) (v := (.agg #[(.bool nu), (.slice adu xu.length qu)])) rfl (by kernel_rfl) (fun _ _ _ h => h) (Or.inl ⟨by rfl, ?_⟩) ⟨(PR.out.at (i := 0) rfl), (PR.out.at (i := 1) rfl), (PR.out.at (i := 2) rfl), (PR.out.at (i := 3) rfl), (PR.out.at (i := 4) rfl), (PR.out.at (i := 5) rfl), (PR.out.at (i := 6) rfl), (PR.out.at (i := 7) rfl), Pu.out.c0, Pu.out.c1⟩ ?_
      · intro w hSw
        (try dsimp only at hSw)
        go_simp
      simp only [Act.put, List.setIfInBounds_toArray, List.set_cons_zero, List.set_cons_succ]
      refine wpAnyT_take (i := 5) (oi := { dst := some 39, op := Op.indexAddr 54 (Operand.tmp 7) (Operand.const (Value.int IntKind.i64 1)), type := 0, pos := "bezout.go:41", after := #[], guard := none }) (v := (.pointer (some ⟨br, 4, none⟩))) rfl (by kernel_rfl) (fun _ _ _ h => h) (Or.inl ⟨by rfl, ?_⟩) ⟨(PR.out.at (i := 0) rfl), (PR.out.at (i := 1) rfl), (PR.out.at (i := 2) rfl), (PR.out.at (i := 3) rfl), (PR.out.at (i := 4) rfl), (PR.out.at (i := 5) rfl), (PR.out.at (i := 6) rfl), (PR.out.at (i := 7) rfl), Pu.out.c0, Pu.out.c1⟩ ?_
      · intro w hSw
        (try dsimp only at hSw)
        go_simp
      simp only [Act.put, List.setIfInBounds_toArray, List.set_cons_zero, List.set_cons_succ]
      refine wpAnyT_take (i := 6) (oi := { dst := some 40, op := Op.load 53 (Operand.tmp 39), type := 53, pos := "bezout.go:41", after := #[{ on := 5, ground := Ground.data }], guard := none }) (v := (.agg #[(.bool nr), (.slice adr xr.length cr), (.bool ns), (.slice ads xs.length cs)])) rfl (by kernel_rfl) (fun _ _ _ h => h) (Or.inl ⟨by rfl, ?_⟩) ⟨(PR.out.at (i := 0) rfl), (PR.out.at (i := 1) rfl), (PR.out.at (i := 2) rfl), (PR.out.at (i := 3) rfl), (PR.out.at (i := 4) rfl), (PR.out.at (i := 5) rfl), (PR.out.at (i := 6) rfl), (PR.out.at (i := 7) rfl), Pu.out.c0, Pu.out.c1⟩ ?_
      · intro w hSw
        (try dsimp only at hSw)
        go_simp
      simp only [Act.put, List.setIfInBounds_toArray, List.set_cons_zero, List.set_cons_succ]
      refine wpAnyT_one (i := 7) (o := { dst := some 41, op := Op.call { callee := Callee.value (Operand.func 36), args := #[Operand.tmp 37, Operand.tmp 38, Operand.tmp 40], argTypes := #[53, 25, 53] }, type := 53, pos := "bezout.go:41", after := #[{ on := 3, ground := Ground.data }, { on := 4, ground := Ground.data }, { on := 6, ground := Ground.data }], guard := none }) (by kernel_rfl) rfl (fun K hK => ?_)
      go_simp
      go_at_call 36
      refine (less_z Zp.out Zq.out Zu.out Zr.out Zs.out hk).mono ?_
      rintro e w22 ⟨r0, r1, r2, r3, rfl, m0, m1, b⟩
      obtain ⟨ne, xe, ade, qe, rfl, rfl⟩ := m0.zi.comp
      obtain ⟨nf, xf, adf, qf, rfl, rfl⟩ := m1.zi.comp
      replace Zb := hid (Zb.out.now b)
      replace Zp := hid (Zp.out.now b)
      replace Zq := hid (Zq.out.now b)
      replace Zr := hid (Zr.out.now b)
      replace Zs := hid (Zs.out.now b)
      replace Zu := hid (Zu.out.now b)
      replace Zt := hid (Zt.out.now b)
      replace Pa := hid (Pa.out.step b)
      replace Pb := hid (Pb.out.step b)
      replace PR := hid (PR.out.step b)
      replace PRG := hid (PRG.out.step b)
      replace PRX := hid (PRX.out.step b)
      replace PRY := hid (PRY.out.step b)
      replace Pu := hid (Pu.out.step b)
      replace Pt := hid (Pt.out.step b)
      replace G := hid (below_step G.out b)
      have lz23 := (show Below _ _ _ from b).size
      have Ze := hid m0
      have Zf := hid m1
      clear b m0 m1
      replace Ze := hid (Ze.out.fit (fits HST.out.1.cx1 LB.out L1.out)).zi
      replace Zf := hid (Zf.out.fit (fits HST.out.1.cy1 LA.out L1.out)).zi
      refine hK.out _ _ (fun _ => ⟨(PR.out.at (i := 0) rfl), (PR.out.at (i := 1) rfl), (PR.out.at (i := 2) rfl), (PR.out.at (i := 3) rfl), (PR.out.at (i := 4) rfl), (PR.out.at (i := 5) rfl), (PR.out.at (i := 6) rfl), (PR.out.at (i := 7) rfl), Pu.out.c0, Pu.out.c1⟩) ?_
      clear hK
      refine wpAnyT_take (i := 8) (oi := { dst := some 42, op := Op.build 54 #[(0, Operand.tmp 35), (1, Operand.tmp 41)], type := 54, pos := "bezout.go:41", after := #[{ on := 1, ground := Ground.data }, { on := 7, ground := Ground.data }], guard := none }) (v := (.agg #[(.bool nr), (.slice adr xr.length cr), (.bool ns), (.slice ads xs.length cs), .bool ne, .slice ade xe.length qe, .bool nf, .slice adf xf.length qf])) rfl (by kernel_rfl) (fun _ _ _ h => h) (Or.inl ⟨by rfl, ?_⟩) ⟨(PR.out.at (i := 0) rfl), (PR.out.at (i := 1) rfl), (PR.out.at (i := 2) rfl), (PR.out.at (i := 3) rfl), (PR.out.at (i := 4) rfl), (PR.out.at (i := 5) rfl), (PR.out.at (i := 6) rfl), (PR.out.at (i := 7) rfl), Pu.out.c0, Pu.out.c1⟩ ?_
      · intro w hSw
        (try dsimp only at hSw)
        go_simp
      simp only [Act.put, List.setIfInBounds_toArray, List.set_cons_zero, List.set_cons_succ]
      refine wpAnyT_one (i := 9) (o := { dst := none, op := Op.store 54 (Operand.tmp 7) (Operand.tmp 42), type := 0, pos := "bezout.go:41", after := #[{ on := 8, ground := Ground.data }, { on := 7, ground := Ground.chain }, { on := 0, ground := Ground.phase }, { on := 1, ground := Ground.phase }, { on := 2, ground := Ground.phase }, { on := 3, ground := Ground.phase }, { on := 4, ground := Ground.phase }, { on := 5, ground := Ground.phase }, { on := 6, ground := Ground.phase }, { on := 7, ground := Ground.phase }, { on := 8, ground := Ground.phase }], guard := none }) (by kernel_rfl) rfl (fun K hK => ?_)
      have cR0 := (PR.out.at (i := 0) rfl)
      have cR1 := (PR.out.at (i := 1) rfl)
      have cR2 := (PR.out.at (i := 2) rfl)
      have cR3 := (PR.out.at (i := 3) rfl)
      have cR4 := (PR.out.at (i := 4) rfl)
      have cR5 := (PR.out.at (i := 5) rfl)
      have cR6 := (PR.out.at (i := 6) rfl)
      have cR7 := (PR.out.at (i := 7) rfl)
      have fR0 := PR.out.fz 0
      have fR1 := PR.out.fz 1
      have fR2 := PR.out.fz 2
      have fR3 := PR.out.fz 3
      have fR4 := PR.out.fz 4
      have fR5 := PR.out.fz 5
      have fR6 := PR.out.fz 6
      have fR7 := PR.out.fz 7
      go_simp
      clear cR0 cR1 cR2 cR3 cR4 cR5 cR6 cR7 fR0 fR1 fR2 fR3 fR4 fR5 fR6 fR7
      obtain ⟨V24, hW⟩ : ∃ V24, (((((((w22.setCell ⟨br, 0, none⟩ (.bool nr)).setCell ⟨br, 1, none⟩ (.slice adr xr.length cr)).setCell ⟨br, 2, none⟩ (.bool ns)).setCell ⟨br, 3, none⟩ (.slice ads xs.length cs)).setCell ⟨br, 4, none⟩ (.bool ne)).setCell ⟨br, 5, none⟩ (.slice ade xe.length qe)).setCell ⟨br, 6, none⟩ (.bool nf)).setCell ⟨br, 7, none⟩ (.slice adf xf.length qf) = V24 := ⟨_, rfl⟩
      replace Zb := hid ((Zb.out).wk ((PR.out).wk8 (.bool nr) (.slice adr xr.length cr) (.bool ns) (.slice ads xs.length cs) (.bool ne) (.slice ade xe.length qe) (.bool nf) (.slice adf xf.length qf)))
      replace Zp := hid ((Zp.out).wk ((PR.out).wk8 (.bool nr) (.slice adr xr.length cr) (.bool ns) (.slice ads xs.length cs) (.bool ne) (.slice ade xe.length qe) (.bool nf) (.slice adf xf.length qf)))
      replace Zq := hid ((Zq.out).wk ((PR.out).wk8 (.bool nr) (.slice adr xr.length cr) (.bool ns) (.slice ads xs.length cs) (.bool ne) (.slice ade xe.length qe) (.bool nf) (.slice adf xf.length qf)))
      replace Zr := hid ((Zr.out).wk ((PR.out).wk8 (.bool nr) (.slice adr xr.length cr) (.bool ns) (.slice ads xs.length cs) (.bool ne) (.slice ade xe.length qe) (.bool nf) (.slice adf xf.length qf)))
      replace Zs := hid ((Zs.out).wk ((PR.out).wk8 (.bool nr) (.slice adr xr.length cr) (.bool ns) (.slice ads xs.length cs) (.bool ne) (.slice ade xe.length qe) (.bool nf) (.slice adf xf.length qf)))
      replace Zu := hid ((Zu.out).wk ((PR.out).wk8 (.bool nr) (.slice adr xr.length cr) (.bool ns) (.slice ads xs.length cs) (.bool ne) (.slice ade xe.length qe) (.bool nf) (.slice adf xf.length qf)))
      replace Zt := hid ((Zt.out).wk ((PR.out).wk8 (.bool nr) (.slice adr xr.length cr) (.bool ns) (.slice ads xs.length cs) (.bool ne) (.slice ade xe.length qe) (.bool nf) (.slice adf xf.length qf)))
      replace Ze := hid ((Ze.out).wk ((PR.out).wk8 (.bool nr) (.slice adr xr.length cr) (.bool ns) (.slice ads xs.length cs) (.bool ne) (.slice ade xe.length qe) (.bool nf) (.slice adf xf.length qf)))
      replace Zf := hid ((Zf.out).wk ((PR.out).wk8 (.bool nr) (.slice adr xr.length cr) (.bool ns) (.slice ads xs.length cs) (.bool ne) (.slice ade xe.length qe) (.bool nf) (.slice adf xf.length qf)))
      replace Pa := hid ((Pa.out).away8 (b' := br) (by omega) (.bool nr) (.slice adr xr.length cr) (.bool ns) (.slice ads xs.length cs) (.bool ne) (.slice ade xe.length qe) (.bool nf) (.slice adf xf.length qf))
      replace Pb := hid ((Pb.out).away8 (b' := br) (by omega) (.bool nr) (.slice adr xr.length cr) (.bool ns) (.slice ads xs.length cs) (.bool ne) (.slice ade xe.length qe) (.bool nf) (.slice adf xf.length qf))
      replace PR := hid ((PR.out).put8 (.bool nr) (.slice adr xr.length cr) (.bool ns) (.slice ads xs.length cs) (.bool ne) (.slice ade xe.length qe) (.bool nf) (.slice adf xf.length qf))
      replace PRG := hid ((PRG.out).away8 (b' := br) (by omega) (.bool nr) (.slice adr xr.length cr) (.bool ns) (.slice ads xs.length cs) (.bool ne) (.slice ade xe.length qe) (.bool nf) (.slice adf xf.length qf))
      replace PRX := hid ((PRX.out).away8 (b' := br) (by omega) (.bool nr) (.slice adr xr.length cr) (.bool ns) (.slice ads xs.length cs) (.bool ne) (.slice ade xe.length qe) (.bool nf) (.slice adf xf.length qf))
      replace PRY := hid ((PRY.out).away8 (b' := br) (by omega) (.bool nr) (.slice adr xr.length cr) (.bool ns) (.slice ads xs.length cs) (.bool ne) (.slice ade xe.length qe) (.bool nf) (.slice adf xf.length qf))
      replace Pu := hid ((Pu.out).away8 (b' := br) (by omega) (.bool nr) (.slice adr xr.length cr) (.bool ns) (.slice ads xs.length cs) (.bool ne) (.slice ade xe.length qe) (.bool nf) (.slice adf xf.length qf))
      replace Pt := hid ((Pt.out).away8 (b' := br) (by omega) (.bool nr) (.slice adr xr.length cr) (.bool ns) (.slice ads xs.length cs) (.bool ne) (.slice ade xe.length qe) (.bool nf) (.slice adf xf.length qf))
      replace G : Hid (Below w.heap.size w (((((((((w22.setCell ⟨br, 0, none⟩ (.bool nr)).setCell ⟨br, 1, none⟩ (.slice adr xr.length cr)).setCell ⟨br, 2, none⟩ (.bool ns)).setCell ⟨br, 3, none⟩ (.slice ads xs.length cs)).setCell ⟨br, 4, none⟩ (.bool ne)).setCell ⟨br, 5, none⟩ (.slice ade xe.length qe)).setCell ⟨br, 6, none⟩ (.bool nf)).setCell ⟨br, 7, none⟩ (.slice adf xf.length qf)))) := bset (bset (bset (bset (bset (bset (bset (bset (G.out) (by omega)) (by omega)) (by omega)) (by omega)) (by omega)) (by omega)) (by omega)) (by omega)
      have sz24 : V24.heap.size = w22.heap.size := by rw [← hW]; simp
      dsimp only [put8, put4] at Zb Zp Zq Zr Zs Zu Zt Ze Zf Pa Pb PR PRG PRX PRY Pu Pt
      rw [hW] at Zb Zp Zq Zr Zs Zu Zt Ze Zf Pa Pb PR PRG PRX PRY Pu Pt G
      rw [hW]
      clear hW
      refine hK.out _ _ (fun h => absurd h (by decide)) ?_
      clear hK
      try simp only [Act.put]
      refine wpAnyT_done (by kernel_rfl) ?_ _
      have HN : Hid (ExtH w A B k br (za.tmod zb).natAbs V24) := ⟨zb, za.tmod zb, zu, zv, _, _, _, _, _, _, _, _, _, _, _, _, _, _, HST.out.1, rfl, Pa.out, Pb.out, PR.out, Zb.out, Zt.out, Zr.out, Zs.out, Ze.out, Zf.out, PRG.out, PRX.out, PRY.out, G.out⟩
      have HM : Hid ((za.tmod zb).natAbs < gk) := by unfold Hid; rw [HG.out]; exact HST.out.2
      clear HST HG
      go_wp2_with fail
      go_roundg (za.tmod zb).natAbs
      case rel => exact HN.out
      case measure => exact HM.out
end Go.Proofs.Ytkikiddoiigbjaa
