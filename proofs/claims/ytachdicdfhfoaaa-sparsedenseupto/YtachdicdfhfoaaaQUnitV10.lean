/-
  UnitV10: the unit matrix with an integer added at a place.
-/
import Derived.Test.YtachdicdfhfoaaaQLaw9ToUnitA9
import Derived.Test.YtachdicdfhfoaaaQTurn9
namespace Go.Proofs.Ytachdicdfhfoaaa
open Go.RowKit
set_option linter.unusedVariables false

theorem boxes10 {w W0 : World} {x y : Value} (hW : (w.alloc (duo x y)).alloc mbox = W0) : Duo W0 w.heap.size x y ∧ Cel W0 (w.heap.size + 1) 24 [.int .i64 0, .int .i64 0, .slice none 0 0] := by
  refine ⟨?_, ?_⟩
  · rw [← hW]
    exact (Duo.new w x y).step ((Below.refl _ _).alloc (Nat.le_refl _) _)
  · rw [← hW]
    have := Cel.new (w.alloc (duo x y)) 24 [.int .i64 0, .int .i64 0, .slice none 0 0]
    simpa using this
def unitV (n ix : Nat) (z : Int) : List Int := (unitL n n).set ix ((unitL n n).getD ix 0 + z)
set_option maxHeartbeats 3200000 in
set_option maxRecDepth 100000 in
theorem unitV_any {w : World} {n i j k : Nat} {v : Value} {z : Int} (hn : n ≤ 64) (hi : i < n) (hj : j < n) (hv : Zi w v z k) (hk : k < 35184372088832) :
    Calls Try.prog 36 #[.int .i64 (n : Int), .int .i64 (i : Int), .int .i64 (j : Int), v] w (GivesM w n n (unitV n (i * n + j) z) (max 1 k + 1)) := by
  have Z0 := hid hv
  obtain ⟨nv, xv, av, cv, rfl, -, -, -⟩ := hv
  generalize xv.length = lv at *
  obtain ⟨W0, hW⟩ : ∃ W0, (w.alloc (duo (.bool nv) (.slice av lv cv))).alloc mbox = W0 := ⟨_, rfl⟩
  obtain ⟨b0, sz0⟩ := alloc2 w (duo (.bool nv) (.slice av lv cv)) mbox
  rw [hW] at b0 sz0
  obtain ⟨pv, pr⟩ := boxes10 hW
  have HS := hid (unitA_any (w := W0) hn)
  have ZV0 := hid (Z0.out.now b0)
  have PV0 := hid pv
  have PR0 := hid pr
  have G0 := hid b0
  have SZ := hid sz0
  have EW := hid hW
  have HK := hid hk
  clear b0 sz0 hW pv pr Z0 hk
  go_enter Try.func36, Try.ntmps36
  go_wp2_with fail
  rw [EW.out]
  refine HS.out.mono ?_
  rintro e w1 ⟨g, N, ps, rfl, hNN, hge, hpl, harr, hzc, b⟩
  obtain ⟨V1, hV⟩ : ∃ V1, w1.alloc (matO n n (.slice (some ⟨g, 0, none⟩) N N)) = V1 := ⟨_, rfl⟩
  obtain ⟨b1, sz1⟩ := alo1 w1 (matO n n (.slice (some ⟨g, 0, none⟩) N N))
  rw [hV] at b1 sz1
  have PU : Hid (Cel V1 w1.heap.size 24 (matc n n (.slice (some ⟨g, 0, none⟩) N N))) := by unfold Hid; rw [← hV]; exact Cel.new w1 _ _
  have HGW : Hid (w.heap.size + 1 < g ∧ g < w1.heap.size) := by unfold Hid; have h1 := SZ.out; have h2 := harr.1.blk; omega
  have bb := below_step b b1
  have AR := hid (harr.step b1)
  have PL := hid hpl
  have ZC := hid (hzc.now b1)
  have PR := hid (PR0.out.step bb)
  have PV := hid (PV0.out.step bb)
  have ZV := hid (ZV0.out.now bb)
  have G := hid (below_step G0.out bb)
  have hm0 := wrapM9 (i := i) (c := n) (by omega) hn
  have hix : i * n + j < N := by
    rw [← hNN]
    have h1 : (i + 1) * n ≤ n * n := Nat.mul_le_mul_right n hi
    have h2 : (i + 1) * n = i * n + n := by rw [Nat.add_mul, Nat.one_mul]
    omega
  have hNB : N ≤ 4096 := by rw [← hNN]; exact Nat.mul_le_mul hn hn
  obtain ⟨lo, hlo⟩ : ∃ lo, i * n = lo := ⟨_, rfl⟩
  rw [hlo] at hm0 hix
  obtain ⟨ix, hix2⟩ : ∃ ix, lo + j = ix := ⟨_, rfl⟩
  rw [hix2] at hix
  have UV : Hid ((unitL n n).set ix ((unitL n n).getD ix 0 + z) = unitV n (i * n + j) z) := by unfold Hid unitV; rw [hlo, hix2]
  have ha0 : IntKind.i64.wrap ((lo : Int) + (j : Int)) = (ix : Int) := by rw [wrap_is] <;> omega
  have ha1 := ha0
  have hm1 := hm0
  rw [IntKind.wrap_i64] at ha1 hm1
  have hixN : (ix : Int) < (N : Int) := by omega
  have PL2 : Hid (ix < ps.length) := by unfold Hid; rw [PL.out]; exact hix
  have hps : ps[ix]? = some (ps[ix]'PL2.out) := List.getElem?_eq_getElem PL2.out
  have hul : ix < (unitL n n).length := by rw [unitL_length, hNN]; exact hix
  have zu := ZC.out.zis.2 ix _ _ hps (List.getElem?_eq_getElem hul)
  rw [getD_at] at zu
  obtain ⟨e0', e1'⟩ := AR.out.at hps
  obtain ⟨np, ap, lp, cp, hp⟩ := AR.out.2 _ (List.getElem_mem PL2.out)
  rw [hp] at e0' e1' zu
  have ZU := hid zu
  generalize (unitL n n).getD ix 0 = UZ at *
  have x0 := PU.out.at (i := 0) rfl
  have x1 := PU.out.at (i := 1) rfl
  have x2 := PU.out.at (i := 2) rfl
  have v0 := PV.out.c0
  have v1 := PV.out.c1
  rw [← hV] at x2
  have EV := hid hV
  have HGB : Hid (g < w1.heap.size) := HGW.out.2
  clear HS G0 EW harr hzc b b1 sz1 hV hge hlo hix2 hps hul zu hp bb hpl hNN
  go_wp2_with fail
  rw [EV.out] at x2 ⊢
  clear EV
  generalize w1.heap.size = bu at *
  have KB : Hid (∀ w', Below V1.heap.size V1 w' → w'.cell? ⟨bu, 2, none⟩ = some (.slice (some ⟨g, 0, none⟩) N N) ∧ w'.cell? ⟨g, ix * 2, none⟩ = some (.bool np) ∧ w'.cell? ⟨g, ix * 2 + 1, none⟩ = some (.slice ap lp cp) ∧ w'.cell? ⟨w.heap.size, 0, none⟩ = some (.bool nv) ∧ w'.cell? ⟨w.heap.size, 1, none⟩ = some (.slice av lv cv)) := fun w' h => ⟨cnow h x2, cnow h e0', cnow h e1', cnow h v0, cnow h v1⟩
  refine wp_region_tail (fun w' => w'.cell? ⟨bu, 2, none⟩ = some (.slice (some ⟨g, 0, none⟩) N N) ∧ w'.cell? ⟨g, ix * 2, none⟩ = some (.bool np) ∧ w'.cell? ⟨g, ix * 2 + 1, none⟩ = some (.slice ap lp cp) ∧ w'.cell? ⟨w.heap.size, 0, none⟩ = some (.bool nv) ∧ w'.cell? ⟨w.heap.size, 1, none⟩ = some (.slice av lv cv)) 19 (by kernel_rfl) ?_
  obtain ⟨D1, hD⟩ : ∃ D1, V1.drew = D1 := ⟨_, rfl⟩
  have GB : Hid (Below V1.heap.size V1 D1) := by unfold Hid; rw [← hD]; exact (Below.refl _ _).drew
  rw [hD]
  clear hD
  refine wpAnyT_take (i := 0) (oi := { dst := some 25, op := Op.fieldAddr 24 (Operand.tmp 9) 2, type := 0, pos := "outright.go:24", after := #[], guard := none }) (v := (.pointer (some ⟨bu, 2, none⟩))) rfl (by kernel_rfl) (fun _ _ _ h => h) (Or.inl ⟨by rfl, ?_⟩) (KB.out _ GB.out) ?_
  · intro w hSw
    (try dsimp only at hSw)
    go_simp
  simp only [Act.put, List.setIfInBounds_toArray, List.set_cons_zero, List.set_cons_succ]
  refine wpAnyT_take (i := 1) (oi := { dst := some 26, op := Op.load 22 (Operand.tmp 25), type := 22, pos := "outright.go:24", after := #[{ on := 0, ground := Ground.data }], guard := none }) (v := (.slice (some ⟨g, 0, none⟩) N N)) rfl (by kernel_rfl) (fun _ _ _ h => h) (Or.inl ⟨by rfl, ?_⟩) (KB.out _ GB.out) ?_
  · intro w hSw
    (try dsimp only at hSw)
    go_simp
  simp only [Act.put, List.setIfInBounds_toArray, List.set_cons_zero, List.set_cons_succ]
  refine wpAnyT_take (i := 2) (oi := { dst := some 27, op := Op.move (Operand.tmp 1), type := 3, pos := "outright.go:24", after := #[], guard := none }) (v := (.int .i64 (i : Int))) rfl (by kernel_rfl) (fun _ _ _ h => h) (Or.inl ⟨by rfl, ?_⟩) (KB.out _ GB.out) ?_
  · intro w hSw
    (try dsimp only at hSw)
    go_simp
  simp only [Act.put, List.setIfInBounds_toArray, List.set_cons_zero, List.set_cons_succ]
  refine wpAnyT_take (i := 3) (oi := { dst := some 28, op := Op.move (Operand.tmp 0), type := 3, pos := "outright.go:24", after := #[], guard := none }) (v := (.int .i64 (n : Int))) rfl (by kernel_rfl) (fun _ _ _ h => h) (Or.inl ⟨by rfl, ?_⟩) (KB.out _ GB.out) ?_
  · intro w hSw
    (try dsimp only at hSw)
    go_simp
  simp only [Act.put, List.setIfInBounds_toArray, List.set_cons_zero, List.set_cons_succ]
  refine wpAnyT_take (i := 4) (oi := { dst := some 29, op := Op.binOp BinOp.mul 3 (Operand.tmp 27) (Operand.tmp 28) 3, type := 3, pos := "outright.go:24", after := #[{ on := 2, ground := Ground.data }, { on := 3, ground := Ground.data }], guard := none }) (v := (.int .i64 (lo : Int))) rfl (by kernel_rfl) (fun _ _ _ h => h) (Or.inl ⟨by rfl, ?_⟩) (KB.out _ GB.out) ?_
  · intro w hSw
    (try dsimp only at hSw)
    go_simp
  simp only [Act.put, List.setIfInBounds_toArray, List.set_cons_zero, List.set_cons_succ]
  refine wpAnyT_take (i := 5) (oi := { dst := some 30, op := Op.move (Operand.tmp 2), type := 3, pos := "outright.go:24", after := #[], guard := none }) (v := (.int .i64 (j : Int))) rfl (by kernel_rfl) (fun _ _ _ h => h) (Or.inl ⟨by rfl, ?_⟩) (KB.out _ GB.out) ?_
  · intro w hSw
    (try dsimp only at hSw)
    go_simp
  simp only [Act.put, List.setIfInBounds_toArray, List.set_cons_zero, List.set_cons_succ]
  refine wpAnyT_take (i := 6) (oi := { dst := some 31, op := Op.binOp BinOp.add 3 (Operand.tmp 29) (Operand.tmp 30) 3, type := 3, pos := "outright.go:24", after := #[{ on := 4, ground := Ground.data }, { on := 5, ground := Ground.data }], guard := none }) (v := (.int .i64 (ix : Int))) rfl (by kernel_rfl) (fun _ _ _ h => h) (Or.inl ⟨by rfl, ?_⟩) (KB.out _ GB.out) ?_
  · intro w hSw
    (try dsimp only at hSw)
    go_simp
  simp only [Act.put, List.setIfInBounds_toArray, List.set_cons_zero, List.set_cons_succ]
  refine wpAnyT_take (i := 7) (oi := { dst := some 32, op := Op.fieldAddr 24 (Operand.tmp 9) 2, type := 0, pos := "outright.go:24", after := #[], guard := none }) (v := (.pointer (some ⟨bu, 2, none⟩))) rfl (by kernel_rfl) (fun _ _ _ h => h) (Or.inl ⟨by rfl, ?_⟩) (KB.out _ GB.out) ?_
  · intro w hSw
    (try dsimp only at hSw)
    go_simp
  simp only [Act.put, List.setIfInBounds_toArray, List.set_cons_zero, List.set_cons_succ]
  refine wpAnyT_take (i := 8) (oi := { dst := some 33, op := Op.load 22 (Operand.tmp 32), type := 22, pos := "outright.go:24", after := #[{ on := 7, ground := Ground.data }], guard := none }) (v := (.slice (some ⟨g, 0, none⟩) N N)) rfl (by kernel_rfl) (fun _ _ _ h => h) (Or.inl ⟨by rfl, ?_⟩) (KB.out _ GB.out) ?_
  · intro w hSw
    (try dsimp only at hSw)
    go_simp
  simp only [Act.put, List.setIfInBounds_toArray, List.set_cons_zero, List.set_cons_succ]
  refine wpAnyT_take (i := 9) (oi := { dst := some 34, op := Op.move (Operand.tmp 1), type := 3, pos := "outright.go:24", after := #[], guard := none }) (v := (.int .i64 (i : Int))) rfl (by kernel_rfl) (fun _ _ _ h => h) (Or.inl ⟨by rfl, ?_⟩) (KB.out _ GB.out) ?_
  · intro w hSw
    (try dsimp only at hSw)
    go_simp
  simp only [Act.put, List.setIfInBounds_toArray, List.set_cons_zero, List.set_cons_succ]
  refine wpAnyT_take (i := 10) (oi := { dst := some 35, op := Op.move (Operand.tmp 0), type := 3, pos := "outright.go:24", after := #[], guard := none }) (v := (.int .i64 (n : Int))) rfl (by kernel_rfl) (fun _ _ _ h => h) (Or.inl ⟨by rfl, ?_⟩) (KB.out _ GB.out) ?_
  · intro w hSw
    (try dsimp only at hSw)
    go_simp
  simp only [Act.put, List.setIfInBounds_toArray, List.set_cons_zero, List.set_cons_succ]
  refine wpAnyT_take (i := 11) (oi := { dst := some 36, op := Op.binOp BinOp.mul 3 (Operand.tmp 34) (Operand.tmp 35) 3, type := 3, pos := "outright.go:24", after := #[{ on := 9, ground := Ground.data }, { on := 10, ground := Ground.data }], guard := none }) (v := (.int .i64 (lo : Int))) rfl (by kernel_rfl) (fun _ _ _ h => h) (Or.inl ⟨by rfl, ?_⟩) (KB.out _ GB.out) ?_
  · intro w hSw
    (try dsimp only at hSw)
    go_simp
  simp only [Act.put, List.setIfInBounds_toArray, List.set_cons_zero, List.set_cons_succ]
  refine wpAnyT_take (i := 12) (oi := { dst := some 37, op := Op.move (Operand.tmp 2), type := 3, pos := "outright.go:24", after := #[], guard := none }) (v := (.int .i64 (j : Int))) rfl (by kernel_rfl) (fun _ _ _ h => h) (Or.inl ⟨by rfl, ?_⟩) (KB.out _ GB.out) ?_
  · intro w hSw
    (try dsimp only at hSw)
    go_simp
  simp only [Act.put, List.setIfInBounds_toArray, List.set_cons_zero, List.set_cons_succ]
  refine wpAnyT_take (i := 13) (oi := { dst := some 38, op := Op.binOp BinOp.add 3 (Operand.tmp 36) (Operand.tmp 37) 3, type := 3, pos := "outright.go:24", after := #[{ on := 11, ground := Ground.data }, { on := 12, ground := Ground.data }], guard := none }) (v := (.int .i64 (ix : Int))) rfl (by kernel_rfl) (fun _ _ _ h => h) (Or.inl ⟨by rfl, ?_⟩) (KB.out _ GB.out) ?_
  · intro w hSw
    (try dsimp only at hSw)
    go_simp
  simp only [Act.put, List.setIfInBounds_toArray, List.set_cons_zero, List.set_cons_succ]
  refine wpAnyT_take (i := 14) (oi := { dst := some 39, op := Op.indexAddr 22 (Operand.tmp 33) (Operand.tmp 38), type := 0, pos := "outright.go:24", after := #[{ on := 8, ground := Ground.data }, { on := 13, ground := Ground.data }], guard := none }) (v := (.pointer (some ⟨g, ix * 2, none⟩))) rfl (by kernel_rfl) (fun _ _ _ h => h) (Or.inl ⟨by rfl, ?_⟩) (KB.out _ GB.out) ?_
  · intro w hSw
    (try dsimp only at hSw)
    go_simp
  simp only [Act.put, List.setIfInBounds_toArray, List.set_cons_zero, List.set_cons_succ]
  refine wpAnyT_take (i := 15) (oi := { dst := some 40, op := Op.load 35 (Operand.tmp 39), type := 35, pos := "outright.go:24", after := #[{ on := 14, ground := Ground.data }], guard := none }) (v := (.agg #[.bool np, .slice ap lp cp])) rfl (by kernel_rfl) (fun _ _ _ h => h) (Or.inl ⟨by rfl, ?_⟩) (KB.out _ GB.out) ?_
  · intro w hSw
    (try dsimp only at hSw)
    go_simp
  simp only [Act.put, List.setIfInBounds_toArray, List.set_cons_zero, List.set_cons_succ]
  refine wpAnyT_take (i := 16) (oi := { dst := some 41, op := Op.load 35 (Operand.tmp 7), type := 35, pos := "outright.go:24", after := #[], guard := none }) (v := (.agg #[.bool nv, .slice av lv cv])) rfl (by kernel_rfl) (fun _ _ _ h => h) (Or.inl ⟨by rfl, ?_⟩) (KB.out _ GB.out) ?_
  · intro w hSw
    (try dsimp only at hSw)
    go_simp
  simp only [Act.put, List.setIfInBounds_toArray, List.set_cons_zero, List.set_cons_succ]
  refine wpAnyT_one (i := 17) (o := { dst := some 42, op := Op.call { callee := Callee.value (Operand.func 53), args := #[Operand.tmp 40, Operand.tmp 41], argTypes := #[35, 35] }, type := 35, pos := "outright.go:24", after := #[{ on := 15, ground := Ground.data }, { on := 16, ground := Ground.data }], guard := none }) (by kernel_rfl) rfl (fun K hK => ?_)
  go_simp
  go_at_call 53
  refine (add_z (ZU.out.now GB.out) (ZV.out.now GB.out) (by omega) HK.out).mono ?_
  rintro e w2 ⟨r, rfl, m1, b⟩
  have lz2 := (show Below _ _ _ from b).size
  replace GB := hid (below_step GB.out b)
  have AR1 := hid (AR.out.step GB.out)
  have ZC1 := hid ((ZC.out.now GB.out).more (l := max 1 k + 1) (by omega))
  have PU1 := hid (PU.out.step GB.out)
  have PR1 := hid (PR.out.step GB.out)
  have G1 := hid (below_step G.out GB.out)
  have M1 := hid m1.zc
  obtain ⟨nr, xr, ar, cr, rfl⟩ := m1.parts
  clear m1
  clear b
  refine hK.out _ _ (fun _ => KB.out _ GB.out) ?_
  clear hK
  refine wpAnyT_take (i := 18) (oi := { dst := some 43, op := Op.indexAddr 22 (Operand.tmp 26) (Operand.tmp 31), type := 0, pos := "outright.go:24", after := #[{ on := 1, ground := Ground.data }, { on := 6, ground := Ground.data }, { on := 0, ground := Ground.phase }, { on := 1, ground := Ground.phase }, { on := 2, ground := Ground.phase }, { on := 3, ground := Ground.phase }, { on := 4, ground := Ground.phase }, { on := 5, ground := Ground.phase }, { on := 6, ground := Ground.phase }, { on := 7, ground := Ground.phase }, { on := 8, ground := Ground.phase }, { on := 9, ground := Ground.phase }, { on := 10, ground := Ground.phase }, { on := 11, ground := Ground.phase }, { on := 12, ground := Ground.phase }, { on := 13, ground := Ground.phase }, { on := 14, ground := Ground.phase }, { on := 15, ground := Ground.phase }, { on := 16, ground := Ground.phase }, { on := 17, ground := Ground.phase }], guard := none }) (v := (.pointer (some ⟨g, ix * 2, none⟩))) rfl (by kernel_rfl) (fun _ _ _ h => h) (Or.inl ⟨by rfl, ?_⟩) (KB.out _ GB.out) ?_
  · intro w hSw
    (try dsimp only at hSw)
    go_simp
  simp only [Act.put, List.setIfInBounds_toArray, List.set_cons_zero, List.set_cons_succ]
  refine wpAnyT_one (i := 19) (o := { dst := none, op := Op.store 35 (Operand.tmp 43) (Operand.tmp 42), type := 0, pos := "outright.go:24", after := #[{ on := 18, ground := Ground.data }, { on := 17, ground := Ground.data }, { on := 17, ground := Ground.chain }, { on := 0, ground := Ground.phase }, { on := 1, ground := Ground.phase }, { on := 2, ground := Ground.phase }, { on := 3, ground := Ground.phase }, { on := 4, ground := Ground.phase }, { on := 5, ground := Ground.phase }, { on := 6, ground := Ground.phase }, { on := 7, ground := Ground.phase }, { on := 8, ground := Ground.phase }, { on := 9, ground := Ground.phase }, { on := 10, ground := Ground.phase }, { on := 11, ground := Ground.phase }, { on := 12, ground := Ground.phase }, { on := 13, ground := Ground.phase }, { on := 14, ground := Ground.phase }, { on := 15, ground := Ground.phase }, { on := 16, ground := Ground.phase }, { on := 17, ground := Ground.phase }], guard := none }) (by kernel_rfl) rfl (fun K hK => ?_)
  have hps : ps[ix]? = some (ps[ix]'PL2.out) := List.getElem?_eq_getElem PL2.out
  obtain ⟨e0, e1⟩ := AR1.out.at hps
  have e2 := AR1.out.1.fz (ix * 2)
  have e3 := AR1.out.1.fz (ix * 2 + 1)
  clear hps
  go_simp
  clear e0 e1 e2 e3
  obtain ⟨V3, hW⟩ : ∃ V3, ((w2.setCell ⟨g, ix * 2, none⟩ (.bool nr)).setCell ⟨g, ix * 2 + 1, none⟩ (.slice ar xr.length cr)) = V3 := ⟨_, rfl⟩
  have HN1 : Hid (Mc V3 (matv n n (.slice (some ⟨g, 0, none⟩) N N)) n n ((unitL n n).set ix (UZ + z)) (max 1 k + 1) ∧ Cel V3 bu 24 (matc n n (.slice (some ⟨g, 0, none⟩) N N)) ∧ Cel V3 (w.heap.size + 1) 24 [.int .i64 0, .int .i64 0, .slice none 0 0] ∧ Below w.heap.size w V3) := by
    unfold Hid
    rw [← hW]
    have hk := AR1.out.wk PL2.out (.bool nr) (.slice ar xr.length cr)
    have q1 := (AR1.out.put PL2.out M1.out.zi.isI).prs (B := 0) (Nat.zero_le _) (by rw [List.length_set, PL.out]; omega) (Nat.le_refl _)
    rw [List.length_set, PL.out] at q1
    refine ⟨⟨_, _, rfl, q1, ZC1.out.set hk (M1.out.wk hk), by rw [List.length_set, unitL_length], hn, hn⟩, ?_, ?_, bset (bset G1.out (by have := HGW.out; omega)) (by have := HGW.out; omega)⟩
    · exact (PU1.out.ne (by have := HGB.out; omega)).ne (by have := HGB.out; omega)
    · exact (PR1.out.ne (by have := HGW.out; omega)).ne (by have := HGW.out; omega)
  rw [hW]
  clear hW
  refine hK.out _ _ (fun h => absurd h (by decide)) ?_
  clear hK
  try simp only [Act.put]
  refine wpAnyT_done (by kernel_rfl) ?_ _
  obtain ⟨hmc, pu, pr, hb⟩ := HN1.out
  have FIN : Hid (GivesM w n n ((unitL n n).set ix (UZ + z)) (max 1 k + 1) (.returned (.agg #[.int .i64 (n : Int), .int .i64 (n : Int), .slice (some ⟨g, 0, none⟩) N N])) (put3 V3 (w.heap.size + 1) (.int .i64 (n : Int)) (.int .i64 (n : Int)) (.slice (some ⟨g, 0, none⟩) N N))) :=
    ⟨_, rfl, hmc.wk pr _ _ _, below_put3 hb (by omega) _ _ _⟩
  rw [UV.out] at FIN
  have PF := hid (pr.put3 (.int .i64 (n : Int)) (.int .i64 (n : Int)) (.slice (some ⟨g, 0, none⟩) N N))
  have z0 := pu.at (i := 0) rfl
  have z1 := pu.at (i := 1) rfl
  have z2 := pu.at (i := 2) rfl
  have r0 := pr.at (i := 0) rfl
  have r1 := pr.at (i := 1) rfl
  have r2 := pr.at (i := 2) rfl
  have f0 := pr.fz 0
  have f1 := pr.fz 1
  have f2 := pr.fz 2
  clear AR PL ZC PU PR G AR1 ZC1 PU1 PR1 G1 M1 PL2 GB KB HN1 hmc pu pr hb e0' e1'
  go_wp2
  exact bodyPost_ret (mback Try.results36 PF.out _ (by rfl)) rfl FIN.out
end Go.Proofs.Ytachdicdfhfoaaa
