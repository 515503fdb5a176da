/-
  Add9: sameShape, placeByPlace, Add.
-/
import Derived.Test.YtlhbcdapinacgaaGreatQMul9ToUnit9
namespace Go.Proofs.YtlhbcdapinacgaaGreat
open Go.RowKit
set_option linter.unusedVariables false

def addL (n : Nat) (xs ys : List Int) : List Int := (List.range n).map fun j => xs.getD j 0 + ys.getD j 0
set_option maxHeartbeats 800000 in
set_option maxRecDepth 100000 in
theorem sameShape_yes {w : World} {r c la lb ca cb : Nat} {aa ab : Option Addr} :
    Calls Tryz.prog 86 #[matv r c (.slice aa la ca), matv r c (.slice ab lb cb)] w fun e w' => e = .returned (.bool true) ∧ Below w.heap.size w w' := by
  obtain ⟨W0, hW⟩ : ∃ W0, (w.alloc (matO r c (.slice aa la ca))).alloc (matO r c (.slice ab lb cb)) = W0 := ⟨_, rfl⟩
  obtain ⟨b0, sz0⟩ := alloc2 w (matO r c (.slice aa la ca)) (matO r c (.slice ab lb cb))
  rw [hW] at b0
  have pa : Cel W0 w.heap.size 24 (matc r c (.slice aa la ca)) := by
    rw [← hW]
    exact (Cel.new w 24 (matc r c (.slice aa la ca))).step ((Below.refl _ _).alloc (Nat.le_refl _) _)
  have pb : Cel W0 (w.heap.size + 1) 24 (matc r c (.slice ab lb cb)) := by
    rw [← hW]
    have := Cel.new (w.alloc (matO r c (.slice aa la ca))) 24 (matc r c (.slice ab lb cb))
    simpa using this
  have x0 := pa.at (i := 0) rfl
  have x1 := pa.at (i := 1) rfl
  have y0 := pb.at (i := 0) rfl
  have y1 := pb.at (i := 1) rfl
  rw [← hW] at x0 x1 y0 y1
  have q0 : ((r : Int) == (r : Int)) = true := by simp
  have q1 : ((c : Int) == (c : Int)) = true := by simp
  have G0 := hid b0
  have EW := hid hW
  clear b0 sz0 hW pa pb
  go_enter Tryz.func86, Tryz.ntmps86
  go_wp2
  go_ret
  rw [EW.out]
  exact ⟨rfl, G0.out⟩
def PlaceH (w : World) (g r c la lb ca cb N k : Nat) (aa ab : Option Addr) (F : Nat → Int) (gk : Nat) (s : Value) (wx : World) : Prop :=
  ∃ i : Nat, s = .int .i64 (i : Int) ∧ i ≤ N ∧ gk = N - i ∧ Fil wx g N i F k ∧ Cel wx w.heap.size 24 (matc r c (.slice aa la ca)) ∧ Cel wx (w.heap.size + 1) 24 (matc r c (.slice ab lb cb)) ∧ Cel wx (w.heap.size + 1 + 1) 24 [.int .i64 0, .int .i64 0, .slice none 0 0] ∧ Below w.heap.size w wx
theorem Mx.zl {w : World} {r c : Nat} {at_ : Value} {zs : List Int} {k : Nat} (h : Mx w (matv r c at_) r c zs k) : Zl w at_ zs k ∧ zs.length = r * c := by
  obtain ⟨a, ps, e, h2, h3, h4, -, -⟩ := h
  simp only [matv, Value.agg.injEq, Array.mk.injEq, List.cons.injEq, and_true, true_and] at e
  subst e
  exact ⟨zl_of h2 h3, h4⟩
abbrev fnAdd : Value := .func (.func 48) #[] #[]
set_option maxHeartbeats 3200000 in
set_option maxRecDepth 100000 in
theorem place_add {w : World} {va vb : Value} {r c : Nat} {xs ys : List Int} {k l : Nat} (ha : Mx w va r c xs k) (hb : Mx w vb r c ys l) (hk : k + l + 1 < 35184372088832) :
    Calls Tryz.prog 61 #[va, vb, fnAdd] w (GivesMO w r c (addL (r * c) xs ys) (k + l + 1)) := by
  obtain ⟨aa, ca, rfl, hr, hc⟩ := ha.form
  obtain ⟨ab, cb, rfl, -, -⟩ := hb.form
  have ZA := hid ha.zl
  have ZB := hid hb.zl
  have hrc : r * c ≤ 64 * 64 := Nat.mul_le_mul hr hc
  obtain ⟨N, hN⟩ : ∃ N, r * c = N := ⟨_, rfl⟩
  have HRC := hid hN
  rw [hN] at ha hb ZA ZB hrc ⊢
  obtain ⟨W0, hW⟩ : ∃ W0, ((w.alloc (matO r c (.slice aa N ca))).alloc (matO r c (.slice ab N cb))).alloc mbox = W0 := ⟨_, rfl⟩
  obtain ⟨b0, sz0⟩ := alloc3 w (matO r c (.slice aa N ca)) (matO r c (.slice ab N cb)) mbox
  rw [hW] at b0 sz0
  obtain ⟨pa, pb, pr⟩ := three_boxes (o1 := matc r c (.slice aa N ca)) (o2 := matc r c (.slice ab N cb)) hW
  obtain ⟨V1, hV⟩ : ∃ V1, W0.alloc (twoO r c r c (.slice aa N ca) (.slice ab N cb)) = V1 := ⟨_, rfl⟩
  obtain ⟨b1, sz1⟩ := alo1 W0 (twoO r c r c (.slice aa N ca) (.slice ab N cb))
  rw [hV] at b1 sz1
  have HCK := hid (checkAll_yes (ms_two hV (ha.now b0) (hb.now b0)))
  have x0 := pa.at (i := 0) rfl
  have x1 := pa.at (i := 1) rfl
  have x2 := pa.at (i := 2) rfl
  have y0 := pb.at (i := 0) rfl
  have y1 := pb.at (i := 1) rfl
  have y2 := pb.at (i := 2) rfl
  rw [← hW] at x0 x1 x2 y0 y1 y2
  have PA := hid (pa.step b1)
  have PB := hid (pb.step b1)
  have PR := hid (pr.step b1)
  have G1 := hid (below_step b0 b1)
  have HK := hid hk
  have EQ : Hid ((((w.alloc (matO r c (.slice aa N ca))).alloc (matO r c (.slice ab N cb))).alloc mbox).alloc (twoO r c r c (.slice aa N ca) (.slice ab N cb)) = V1) := by unfold Hid; rw [hW, hV]
  have SW : Hid (W0.heap.size = w.heap.size + 1 + 1 + 1) := sz0
  have SV : Hid (V1.heap.size = w.heap.size + 1 + 1 + 1 + 1) := by unfold Hid; rw [sz1, sz0]
  rw [SW.out] at HCK
  have HLX := hid (ZA.out.2)
  have HLY := hid (ZB.out.2)
  obtain ⟨ax9, cx9, fx, hcx, hnx, ffx⟩ := ZA.out.1.form9
  obtain ⟨ay9, cy9, fy, hcy, hny, ffy⟩ := ZB.out.1.form9
  simp only [Value.slice.injEq] at fx fy
  obtain ⟨fx1, -, fx2⟩ := fx
  obtain ⟨fy1, -, fy2⟩ := fy
  subst fx1 fx2 fy1 fy2
  have FX := hid ffx
  have FY := hid ffy
  have HCX := hid hcx
  have HCY := hid hcy
  clear ha hb hk b0 sz0 hW pa pb pr b1 sz1 hV hN hcx hnx ffx hcy hny ffy
  go_enter Tryz.func61, Tryz.ntmps61
  go_wp2_with fail
  rw [EQ.out]
  refine HCK.out.mono ?_
  rintro e w1 ⟨rfl, b⟩
  have PA1 := hid (PA.out.step b)
  have PB1 := hid (PB.out.step b)
  have PR1 := hid (PR.out.step b)
  have G2 := hid (below_step G1.out b)
  have SV1 : Hid (w.heap.size + 1 + 1 < w1.heap.size) := by unfold Hid; have h1 := SV.out; have h2 := (show Below _ _ _ from b).size; omega
  have z0 := PA1.out.at (i := 0) rfl
  have z1 := PA1.out.at (i := 1) rfl
  have z2 := PA1.out.at (i := 2) rfl
  have t0 := PB1.out.at (i := 0) rfl
  have t1 := PB1.out.at (i := 1) rfl
  have t2 := PB1.out.at (i := 2) rfl
  clear HCK b x0 x1 x2 y0 y1 y2 EQ PA PB PR G1 SV SW
  go_wp2_with fail
  refine (sameShape_yes (w := w1)).mono ?_
  rintro e w2 ⟨rfl, b⟩
  have PA2 := hid (PA1.out.step b)
  have PB2 := hid (PB1.out.step b)
  have PR2 := hid (PR1.out.step b)
  have G3 := hid (below_step G2.out b)
  have SV2 : Hid (w.heap.size + 1 + 1 < w2.heap.size) := by unfold Hid; have h1 := SV1.out; have h2 := (show Below _ _ _ from b).size; omega
  have x2 := PA2.out.at (i := 2) rfl
  clear b z0 z1 z2 t0 t1 t2 PA1 PB1 PR1 G2 SV1
  go_wp2_with (at_make; refine wpList_make_pairs9 _ rfl _ _ rfl _ _ N N rfl rfl rfl rfl (Nat.le_refl _) (by omega) ?_)
  intro w3 hrow hb3 hsz3
  have HGE : Hid (w.heap.size + 1 + 1 < w2.heap.size) := SV2.out
  have H0 : Hid (PlaceH w w2.heap.size r c N N ca cb N (k + l + 1) aa ab (fun j => xs.getD j 0 + ys.getD j 0) N (.int .i64 0) w3) := ⟨0, rfl, Nat.zero_le _, by omega, Fil.start hrow _ _, PA2.out.step hb3, PB2.out.step hb3, PR2.out.step hb3, below_step G3.out hb3⟩
  clear hrow hb3 hsz3 PA2 PB2 PR2 G3 SV2 x2
  generalize w2.heap.size = g at *
  go_wp2_with fail
  go_loopg [30] N (fun gk s30 wx => PlaceH w g r c N N ca cb N (k + l + 1) aa ab (fun j => xs.getD j 0 + ys.getD j 0) gk s30 wx)
  case atStart => exact H0.out
  case round =>
    clear H0
    obtain ⟨i, rfl, hin, hg, hfil, hpa, hpb, hpr, hG⟩ := hrel
    have FI := hid hfil
    have PA := hid hpa
    have PB := hid hpb
    have PR := hid hpr
    have G := hid hG
    have HG := hid hg
    clear hfil hpa hpb hpr hG hg
    by_cases hlt : i < N
    · have hlt' : (i : Int) < (N : Int) := by omega
      obtain ⟨b1, o1, rfl⟩ := FX.out (fun e => by have := HLX.out; rw [e] at this; simp at this; omega)
      obtain ⟨b2, o2, rfl⟩ := FY.out (fun e => by have := HLY.out; rw [e] at this; simp at this; omega)
      obtain ⟨nf, xf, adf, qf, k0, k1, zf⟩ := (ZA.out.1.now G.out).at9 (i := i) (by rw [HLX.out]; exact hlt)
      obtain ⟨ng, xg, adg, qg, k2, k3, zg⟩ := (ZB.out.1.now G.out).at9 (i := i) (by rw [HLY.out]; exact hlt)
      have ZF : Hid (∀ h : i < xs.length, ∀ h' : i < ys.length, xs[i] + ys[i] = xs.getD i 0 + ys.getD i 0) := fun h h' => by rw [getD_at h, getD_at h']
      have HS : Hid (∀ w', Below wr.heap.size wr w' → Calls Tryz.prog 48 #[.agg #[.bool nf, .slice adf xf.length qf], .agg #[.bool ng, .slice adg xg.length qg]] w' (GivesZ w' _ _)) := fun w' h => add_z (zf.now h) (zg.now h) (by have := HK.out; omega) (by have := HK.out; omega)
      clear zf zg
      have hw := wrapI9 (i := i) (by omega)
      have k4 := PA.out.at (i := 2) rfl
      have k5 := PB.out.at (i := 2) rfl
      go_wp2_with fail
      have KB : Hid (∀ w', Below wr.heap.size wr w' → w'.cell? ⟨b1, o1 + i * 2, none⟩ = some (.bool nf) ∧ w'.cell? ⟨b1, o1 + i * 2 + 1, none⟩ = some (.slice adf xf.length qf) ∧ w'.cell? ⟨b2, o2 + i * 2, none⟩ = some (.bool ng) ∧ w'.cell? ⟨b2, o2 + i * 2 + 1, none⟩ = some (.slice adg xg.length qg) ∧ w'.cell? ⟨w.heap.size, 2, none⟩ = some (.slice (some ⟨b1, o1, none⟩) N ca) ∧ w'.cell? ⟨w.heap.size + 1, 2, none⟩ = some (.slice (some ⟨b2, o2, none⟩) N cb)) := fun w' h => ⟨cnow h k0, cnow h k1, cnow h k2, cnow h k3, cnow h k4, cnow h k5⟩
      refine wp_region_tail (fun w' => w'.cell? ⟨b1, o1 + i * 2, none⟩ = some (.bool nf) ∧ w'.cell? ⟨b1, o1 + i * 2 + 1, none⟩ = some (.slice adf xf.length qf) ∧ w'.cell? ⟨b2, o2 + i * 2, none⟩ = some (.bool ng) ∧ w'.cell? ⟨b2, o2 + i * 2 + 1, none⟩ = some (.slice adg xg.length qg) ∧ w'.cell? ⟨w.heap.size, 2, none⟩ = some (.slice (some ⟨b1, o1, none⟩) N ca) ∧ w'.cell? ⟨w.heap.size + 1, 2, none⟩ = some (.slice (some ⟨b2, o2, none⟩) N cb)) 15 (by kernel_rfl) ?_
      obtain ⟨D1, hD⟩ : ∃ D1, wr.drew = D1 := ⟨_, rfl⟩
      have GB : Hid (Below wr.heap.size wr D1) := by unfold Hid; rw [← hD]; exact (Below.refl _ _).drew
      rw [hD]
      clear hD
      refine wpAnyT_take (i := 0) (oi := { dst := some 33, op := Op.move (Operand.tmp 9), type := 22, pos := "ring.go:103", after := #[], guard := none }) (v := (.slice (some ⟨g, 0, none⟩) N N)) rfl (by kernel_rfl) (fun _ _ _ h => h) (Or.inl ⟨by rfl, ?_⟩) (KB.out _ GB.out) ?_
      · intro w hSw
        (try dsimp only at hSw)
        go_simp
      simp only [Act.put, List.setIfInBounds_toArray, List.set_cons_zero, List.set_cons_succ]
      refine wpAnyT_take (i := 1) (oi := { dst := some 34, op := Op.move (Operand.tmp 10), type := 3, pos := "ring.go:103", after := #[], guard := none }) (v := (.int .i64 (i : Int))) rfl (by kernel_rfl) (fun _ _ _ h => h) (Or.inl ⟨by rfl, ?_⟩) (KB.out _ GB.out) ?_
      · intro w hSw
        (try dsimp only at hSw)
        go_simp
      simp only [Act.put, List.setIfInBounds_toArray, List.set_cons_zero, List.set_cons_succ]
      refine wpAnyT_take (i := 2) (oi := { dst := some 35, op := Op.move (Operand.tmp 2), type := 45, pos := "ring.go:103", after := #[], guard := none }) (v := fnAdd) rfl (by kernel_rfl) (fun _ _ _ h => h) (Or.inl ⟨by rfl, ?_⟩) (KB.out _ GB.out) ?_
      · intro w hSw
        (try dsimp only at hSw)
        go_simp
      simp only [Act.put, List.setIfInBounds_toArray, List.set_cons_zero, List.set_cons_succ]
      refine wpAnyT_take (i := 3) (oi := { dst := some 36, op := Op.fieldAddr 24 (Operand.tmp 3) 2, type := 0, pos := "ring.go:103", after := #[], guard := none }) (v := (.pointer (some ⟨w.heap.size, 2, none⟩))) rfl (by kernel_rfl) (fun _ _ _ h => h) (Or.inl ⟨by rfl, ?_⟩) (KB.out _ GB.out) ?_
      · intro w hSw
        (try dsimp only at hSw)
        go_simp
      simp only [Act.put, List.setIfInBounds_toArray, List.set_cons_zero, List.set_cons_succ]
      refine wpAnyT_take (i := 4) (oi := { dst := some 37, op := Op.load 22 (Operand.tmp 36), type := 22, pos := "ring.go:103", after := #[{ on := 3, ground := Ground.data }], guard := none }) (v := (.slice (some ⟨b1, o1, none⟩) N ca)) rfl (by kernel_rfl) (fun _ _ _ h => h) (Or.inl ⟨by rfl, ?_⟩) (KB.out _ GB.out) ?_
      · intro w hSw
        (try dsimp only at hSw)
        go_simp
      simp only [Act.put, List.setIfInBounds_toArray, List.set_cons_zero, List.set_cons_succ]
      refine wpAnyT_take (i := 5) (oi := { dst := some 38, op := Op.move (Operand.tmp 10), type := 3, pos := "ring.go:103", after := #[], guard := none }) (v := (.int .i64 (i : Int))) rfl (by kernel_rfl) (fun _ _ _ h => h) (Or.inl ⟨by rfl, ?_⟩) (KB.out _ GB.out) ?_
      · intro w hSw
        (try dsimp only at hSw)
        go_simp
      simp only [Act.put, List.setIfInBounds_toArray, List.set_cons_zero, List.set_cons_succ]
      refine wpAnyT_take (i := 6) (oi := { dst := some 39, op := Op.indexAddr 22 (Operand.tmp 37) (Operand.tmp 38), type := 0, pos := "ring.go:103", after := #[{ on := 4, ground := Ground.data }, { on := 5, ground := Ground.data }], guard := none }) (v := (.pointer (some ⟨b1, o1 + i * 2, none⟩))) rfl (by kernel_rfl) (fun _ _ _ h => h) (Or.inl ⟨by rfl, ?_⟩) (KB.out _ GB.out) ?_
      · intro w hSw
        (try dsimp only at hSw)
        go_simp
      simp only [Act.put, List.setIfInBounds_toArray, List.set_cons_zero, List.set_cons_succ]
      refine wpAnyT_take (i := 7) (oi := { dst := some 40, op := Op.load 30 (Operand.tmp 39), type := 30, pos := "ring.go:103", after := #[{ on := 6, ground := Ground.data }], guard := none }) (v := (.agg #[.bool nf, .slice adf xf.length qf])) rfl (by kernel_rfl) (fun _ _ _ h => h) (Or.inl ⟨by rfl, ?_⟩) (KB.out _ GB.out) ?_
      · intro w hSw
        (try dsimp only at hSw)
        go_simp
      simp only [Act.put, List.setIfInBounds_toArray, List.set_cons_zero, List.set_cons_succ]
      refine wpAnyT_take (i := 8) (oi := { dst := some 41, op := Op.fieldAddr 24 (Operand.tmp 4) 2, type := 0, pos := "ring.go:103", after := #[], guard := none }) (v := (.pointer (some ⟨w.heap.size + 1, 2, none⟩))) rfl (by kernel_rfl) (fun _ _ _ h => h) (Or.inl ⟨by rfl, ?_⟩) (KB.out _ GB.out) ?_
      · intro w hSw
        (try dsimp only at hSw)
        go_simp
      simp only [Act.put, List.setIfInBounds_toArray, List.set_cons_zero, List.set_cons_succ]
      refine wpAnyT_take (i := 9) (oi := { dst := some 42, op := Op.load 22 (Operand.tmp 41), type := 22, pos := "ring.go:103", after := #[{ on := 8, ground := Ground.data }], guard := none }) (v := (.slice (some ⟨b2, o2, none⟩) N cb)) rfl (by kernel_rfl) (fun _ _ _ h => h) (Or.inl ⟨by rfl, ?_⟩) (KB.out _ GB.out) ?_
      · intro w hSw
        (try dsimp only at hSw)
        go_simp
      simp only [Act.put, List.setIfInBounds_toArray, List.set_cons_zero, List.set_cons_succ]
      refine wpAnyT_take (i := 10) (oi := { dst := some 43, op := Op.move (Operand.tmp 10), type := 3, pos := "ring.go:103", after := #[], guard := none }) (v := (.int .i64 (i : Int))) rfl (by kernel_rfl) (fun _ _ _ h => h) (Or.inl ⟨by rfl, ?_⟩) (KB.out _ GB.out) ?_
      · intro w hSw
        (try dsimp only at hSw)
        go_simp
      simp only [Act.put, List.setIfInBounds_toArray, List.set_cons_zero, List.set_cons_succ]
      refine wpAnyT_take (i := 11) (oi := { dst := some 44, op := Op.indexAddr 22 (Operand.tmp 42) (Operand.tmp 43), type := 0, pos := "ring.go:103", after := #[{ on := 9, ground := Ground.data }, { on := 10, ground := Ground.data }], guard := none }) (v := (.pointer (some ⟨b2, o2 + i * 2, none⟩))) rfl (by kernel_rfl) (fun _ _ _ h => h) (Or.inl ⟨by rfl, ?_⟩) (KB.out _ GB.out) ?_
      · intro w hSw
        (try dsimp only at hSw)
        go_simp
      simp only [Act.put, List.setIfInBounds_toArray, List.set_cons_zero, List.set_cons_succ]
      refine wpAnyT_take (i := 12) (oi := { dst := some 45, op := Op.load 30 (Operand.tmp 44), type := 30, pos := "ring.go:103", after := #[{ on := 11, ground := Ground.data }], guard := none }) (v := (.agg #[.bool ng, .slice adg xg.length qg])) rfl (by kernel_rfl) (fun _ _ _ h => h) (Or.inl ⟨by rfl, ?_⟩) (KB.out _ GB.out) ?_
      · intro w hSw
        (try dsimp only at hSw)
        go_simp
      simp only [Act.put, List.setIfInBounds_toArray, List.set_cons_zero, List.set_cons_succ]
      refine wpAnyT_one (i := 13) (o := { dst := some 46, op := Op.call { callee := Callee.value (Operand.tmp 35), args := #[Operand.tmp 40, Operand.tmp 45], argTypes := #[30, 30] }, type := 30, pos := "ring.go:103", after := #[{ on := 2, ground := Ground.data }, { on := 7, ground := Ground.data }, { on := 12, ground := Ground.data }], guard := none }) (by kernel_rfl) rfl (fun K hK => ?_)
      go_simp
      go_at_call 48
      refine (HS.out _ GB.out).mono ?_
      rintro e w2 ⟨r, rfl, m1, b⟩
      have lz2 := (show Below _ _ _ from b).size
      replace GB := hid (below_step GB.out b)
      have FI1 := hid (FI.out.step GB.out)
      have PA1 := hid (PA.out.step GB.out)
      have PB1 := hid (PB.out.step GB.out)
      have PR1 := hid (PR.out.step GB.out)
      have G1 := hid (below_step G.out GB.out)
      have M1 := hid (m1.zc.more (show _ ≤ k + l + 1 by omega))
      obtain ⟨nr, xr, ar, cr, rfl⟩ := m1.parts
      rw [ZF.out (by rw [HLX.out]; exact hlt) (by rw [HLY.out]; exact hlt)] at M1
      clear m1
      clear b
      refine hK.out _ _ (fun _ => KB.out _ GB.out) ?_
      clear hK
      refine wpAnyT_take (i := 14) (oi := { dst := some 47, op := Op.indexAddr 22 (Operand.tmp 33) (Operand.tmp 34), type := 0, pos := "ring.go:103", after := #[{ on := 0, ground := Ground.data }, { on := 1, ground := Ground.data }, { on := 0, ground := Ground.phase }, { on := 1, ground := Ground.phase }, { on := 2, ground := Ground.phase }, { on := 3, ground := Ground.phase }, { on := 4, ground := Ground.phase }, { on := 5, ground := Ground.phase }, { on := 6, ground := Ground.phase }, { on := 7, ground := Ground.phase }, { on := 8, ground := Ground.phase }, { on := 9, ground := Ground.phase }, { on := 10, ground := Ground.phase }, { on := 11, ground := Ground.phase }, { on := 12, ground := Ground.phase }, { on := 13, ground := Ground.phase }], guard := none }) (v := (.pointer (some ⟨g, i * 2, none⟩))) rfl (by kernel_rfl) (fun _ _ _ h => h) (Or.inl ⟨by rfl, ?_⟩) (KB.out _ GB.out) ?_
      · intro w hSw
        (try dsimp only at hSw)
        go_simp
      simp only [Act.put, List.setIfInBounds_toArray, List.set_cons_zero, List.set_cons_succ]
      refine wpAnyT_one (i := 15) (o := { dst := none, op := Op.store 30 (Operand.tmp 47) (Operand.tmp 46), type := 0, pos := "ring.go:103", after := #[{ on := 14, ground := Ground.data }, { on := 13, ground := Ground.data }, { on := 13, ground := Ground.chain }, { on := 0, ground := Ground.phase }, { on := 1, ground := Ground.phase }, { on := 2, ground := Ground.phase }, { on := 3, ground := Ground.phase }, { on := 4, ground := Ground.phase }, { on := 5, ground := Ground.phase }, { on := 6, ground := Ground.phase }, { on := 7, ground := Ground.phase }, { on := 8, ground := Ground.phase }, { on := 9, ground := Ground.phase }, { on := 10, ground := Ground.phase }, { on := 11, ground := Ground.phase }, { on := 12, ground := Ground.phase }, { on := 13, ground := Ground.phase }], guard := none }) (by kernel_rfl) rfl (fun K hK => ?_)
      obtain ⟨m0, am, lm, cm, e0, e1, e2, e3⟩ := FI1.out.cells hlt
      go_simp
      clear e0 e1 e2 e3
      obtain ⟨V3, hW⟩ : ∃ V3, ((w2.setCell ⟨g, i * 2, none⟩ (.bool nr)).setCell ⟨g, i * 2 + 1, none⟩ (.slice ar xr.length cr)) = V3 := ⟨_, rfl⟩
      have HN1 : Hid (PlaceH w g r c N N ca cb N (k + l + 1) (some ⟨b1, o1, none⟩) (some ⟨b2, o2, none⟩) (fun j => xs.getD j 0 + ys.getD j 0) (N - (i + 1)) (.int .i64 ((i + 1 : Nat) : Int)) V3) := by
        unfold Hid
        rw [← hW]
        have hg := HGE.out
        exact ⟨i + 1, rfl, by omega, rfl, FI1.out.put hlt M1.out, (PA1.out.ne (by omega)).ne (by omega), (PB1.out.ne (by omega)).ne (by omega), (PR1.out.ne (by omega)).ne (by omega), bset (bset G1.out (by omega)) (by omega)⟩
      rw [hW]
      clear hW
      refine hK.out _ _ (fun h => absurd h (by decide)) ?_
      clear hK
      try simp only [Act.put]
      refine wpAnyT_done (by kernel_rfl) ?_ _
      have HMM : Hid (N - (i + 1) < gk) := by unfold Hid; rw [HG.out]; omega
      clear HS FI PA PB PR G HG FI1 PA1 PB1 PR1 G1 M1 ZF GB KB
      go_wp2_with fail
      go_roundg (N - (i + 1))
      case rel => exact HN1.out
      case measure => exact HMM.out
    · have hlt' : ¬ (i : Int) < (N : Int) := by omega
      obtain rfl : i = N := by omega
      obtain ⟨ps, p1, p2⟩ := FI.out.done (B := 0) (Nat.zero_le _) (by omega)
      have hmc : Mc wr (matv r c (.slice (some ⟨g, 0, none⟩) i i)) r c (addL i xs ys) (k + l + 1) := ⟨_, ps, rfl, p1, p2, by simp [addL, HRC.out], hr, hc⟩
      have FIN : Hid (GivesMO w r c (addL i xs ys) (k + l + 1) (.returned (.tuple #[.agg #[.int .i64 (r : Int), .int .i64 (c : Int), .slice (some ⟨g, 0, none⟩) i i], .int .i64 0])) (put3 wr (w.heap.size + 1 + 1) (.int .i64 (r : Int)) (.int .i64 (c : Int)) (.slice (some ⟨g, 0, none⟩) i i))) :=
        ⟨_, rfl, hmc.wk PR.out _ _ _, below_put3 G.out (by omega) _ _ _⟩
      have PF := hid (PR.out.put3 (.int .i64 (r : Int)) (.int .i64 (c : Int)) (.slice (some ⟨g, 0, none⟩) i i))
      have x0 := PA.out.at (i := 0) rfl
      have x1 := PA.out.at (i := 1) rfl
      have r0 := PR.out.at (i := 0) rfl
      have r1 := PR.out.at (i := 1) rfl
      have r2 := PR.out.at (i := 2) rfl
      have f0 := PR.out.fz 0
      have f1 := PR.out.fz 1
      have f2 := PR.out.fz 2
      clear FI PB G HG hmc p1 p2
      go_wp2
      exact bodyPost_ret (mback1 Tryz.results61 PF.out _ (by rfl) (by rfl)) rfl FIN.out
set_option maxHeartbeats 1600000 in
set_option maxRecDepth 100000 in
theorem add_yes {w : World} {va vb : Value} {r c : Nat} {xs ys : List Int} {k l : Nat} (ha : Mx w va r c xs k) (hb : Mx w vb r c ys l) (hk : k + l + 1 < 35184372088832) :
    Calls Tryz.prog 31 #[va, vb] w (GivesMO w r c (addL (r * c) xs ys) (k + l + 1)) := by
  have A0 := hid ha
  have B0 := hid hb
  obtain ⟨aa, ca, rfl, hr, hc⟩ := ha.form
  obtain ⟨ab, cb, rfl, -, -⟩ := hb.form
  obtain ⟨N, hN⟩ : ∃ N, r * c = N := ⟨_, rfl⟩
  rw [hN] at A0 B0 ⊢
  obtain ⟨W0, hW⟩ : ∃ W0, ((w.alloc (matO r c (.slice aa N ca))).alloc (matO r c (.slice ab N cb))).alloc mbox = W0 := ⟨_, rfl⟩
  obtain ⟨b0, sz0⟩ := alloc3 w (matO r c (.slice aa N ca)) (matO r c (.slice ab N cb)) mbox
  rw [hW] at b0 sz0
  obtain ⟨pa, pb, pr⟩ := three_boxes (o1 := matc r c (.slice aa N ca)) (o2 := matc r c (.slice ab N cb)) hW
  have HPL := hid (place_add (A0.out.now b0) (B0.out.now b0) hk)
  rw [hN] at HPL
  have x0 := pa.at (i := 0) rfl
  have x1 := pa.at (i := 1) rfl
  have x2 := pa.at (i := 2) rfl
  have y0 := pb.at (i := 0) rfl
  have y1 := pb.at (i := 1) rfl
  have y2 := pb.at (i := 2) rfl
  rw [← hW] at x0 x1 x2 y0 y1 y2
  have PR := hid pr
  have G0 := hid b0
  have EW := hid hW
  have HRC := hid hN
  clear ha hb hk b0 sz0 hW pa pb pr hN A0 B0
  go_enter Tryz.func31, Tryz.ntmps31
  go_wp2_with fail
  rw [EW.out]
  refine HPL.out.mono ?_
  rintro e w2 ⟨v, rfl, hmc, b⟩
  obtain ⟨av, cv, rfl, -, -⟩ := hmc.mx.form
  have PR2 := hid (PR.out.step b)
  have G3 := hid (below_step G0.out b)
  rw [HRC.out] at hmc ⊢
  have FIN : Hid (GivesMO w r c (addL N xs ys) (k + l + 1) (.returned (.tuple #[.agg #[.int .i64 (r : Int), .int .i64 (c : Int), .slice av N cv], .int .i64 0])) (put3 w2 (w.heap.size + 1 + 1) (.int .i64 (r : Int)) (.int .i64 (c : Int)) (.slice av N cv))) :=
    ⟨_, rfl, hmc.wk PR2.out _ _ _, below_put3 G3.out (by omega) _ _ _⟩
  have PF := hid (PR2.out.put3 (.int .i64 (r : Int)) (.int .i64 (c : Int)) (.slice av N cv))
  have r0 := PR2.out.at (i := 0) rfl
  have r1 := PR2.out.at (i := 1) rfl
  have r2 := PR2.out.at (i := 2) rfl
  have f0 := PR2.out.fz 0
  have f1 := PR2.out.fz 1
  have f2 := PR2.out.fz 2
  clear HPL hmc b x0 x1 x2 y0 y1 y2 EW
  go_wp2
  exact bodyPost_ret (mback1 Tryz.results31 PF.out _ (by rfl) (by rfl)) rfl FIN.out
end Go.Proofs.YtlhbcdapinacgaaGreat
