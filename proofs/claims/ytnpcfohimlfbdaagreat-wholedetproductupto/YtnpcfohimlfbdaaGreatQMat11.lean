/-
 Mat11: Make; a sheet's matrix.
-/
import Derived.Test.YtnpcfohimlfbdaaGreatQOf11
import Derived.Test.YtnpcfohimlfbdaaGreatQFil9ToDot9
import Derived.Test.YtnpcfohimlfbdaaGreatQZFloorToTy9
set_option maxRecDepth 100000
set_option maxHeartbeats 6400000
set_option linter.unusedVariables false
set_option linter.unusedSimpArgs false
namespace Go.Proofs.YtnpcfohimlfbdaaGreat
open Go.RowKit

theorem make_yes {w : World} {B r c : Nat} {at_ : Value} {ps : List (Value × Value)} {zs : List Int} {k : Nat} (hA : Prs B w at_ ps) (hz : Zis w ps zs k) (hl : zs.length = r * c) (hr : r ≤ 64) (hc : c ≤ 64) :
  Calls Tryz.prog 58 #[.int .i64 (r : Int), .int .i64 (c : Int), at_] w (GivesMO w r c zs k) := by
 obtain ⟨W0, hW⟩ : ∃ W0, w.alloc mbox = W0 := ⟨_, rfl⟩
 obtain ⟨b0, sz0⟩ := alo1 w mbox
 rw [hW] at b0 sz0
 have PR := hid (mbox_new hW)
 have HE := hid (eachLeast_any (hA.now b0) (hz.now b0))
 have HS := hid (isShape_yes (w := W0) hr hc)
 obtain ⟨a, cap, rfl, -, -, -, -⟩ := hA.form
 have hm0 := wrapM9 (i := r) (c := c) hr hc
 have hpl : ps.length = r * c := by rw [hz.1, hl]
 rw [hpl] at HE ⊢
 obtain ⟨n, hn⟩ : ∃ n, r * c = n := ⟨_, rfl⟩
 rw [hn] at hm0 HE ⊢
 have hm2 := hm0
 rw [IntKind.wrap_i64] at hm2
 have q0 : ((n : Int) != (n : Int)) = false := by simp
 have G0 := hid b0
 have EW := hid hW
 have HL := hid hl
 have HN := hid hn
 have SZ := hid sz0
 clear b0 sz0 hW hA hz hl hn hpl
 go_enter Tryz.func58, Tryz.ntmps58
 go_wp2_with fail
 rw [EW.out]
 refine HS.out.mono ?_
 rintro e w1 ⟨rfl, hw1⟩
 have hw2 := hw1.symm
 subst hw2
 clear hw1 HS
 go_wp2_with fail
 refine HE.out.mono ?_
 rintro e w2 ⟨u, qs, rfl, p1, p2, b⟩
 have PR2 := hid (PR.out.step b)
 have G2 := hid (below_step G0.out b)
 obtain ⟨au, cu, rfl, -, -, -, -⟩ := p1.form
 have hql : qs.length = n := by rw [p2.1, HL.out, HN.out]
 rw [hql] at p1 ⊢
 have FIN : Hid (GivesMO w r c zs k (.returned (.tuple #[.agg #[.int .i64 (r : Int), .int .i64 (c : Int), .slice au n cu], .int .i64 0])) (put3 w2 w.heap.size (.int .i64 (r : Int)) (.int .i64 (c : Int)) (.slice au n cu))) :=
  ⟨_, rfl, ⟨_, qs, rfl, (p1.put3 (by have := SZ.out; omega) _ _ _).mono (Nat.zero_le _), p2.wk (PR2.out.wk3 _ _ _), HL.out, hr, hc⟩, below_put3 G2.out (by omega) _ _ _⟩
 have PF := hid (PR2.out.put3 (.int .i64 (r : Int)) (.int .i64 (c : Int)) (.slice au n cu))
 have r0 := PR2.out.at (i := 0) rfl
 have r1 := PR2.out.at (i := 1) rfl
 have r2 := PR2.out.at (i := 2) rfl
 have f0 := PR2.out.fz 0
 have f1 := PR2.out.fz 1
 have f2 := PR2.out.fz 2
 clear HE p1 p2 b PR G0 G2 EW hql
 go_wp2
 exact bodyPost_ret (mback1 Tryz.results58 PF.out _ (by rfl) (by rfl)) rfl FIN.out
theorem Sht.same9 {B c k : Nat} {w : World} {lv : Value} {gs : List Nat} {m : List (List Int)} {pss : List (List (Value × Value))} (h : Sht B w lv c gs m k) (hz : Zcss w pss m k) : Same9 c pss := same_of hz h.2.2.2.2.1
theorem matrix_any {w : World} {B r c k : Nat} {lv : Value} {gs : List Nat} {m : List (List Int)} (h : Sht B w lv c gs m k) (hm : m.length = r) (hr : r ≤ 64) (hc : c ≤ 64) :
  Calls Tryz.prog 32 #[.agg #[.int .i64 (c : Int), lv]] w (GivesM w r c m.flatten k) := by
 obtain ⟨pss, hp, hz⟩ := h.prr (by omega) hc
 have hsm := h.same9 hz
 have hfl : m.flatten.length = r * c := by
  have := take_flat (m := c) (pss := m) h.2.2.2.2.1 r (by omega)
  rw [List.take_of_length_le (by omega)] at this
  exact this
 obtain ⟨a, cap, rfl, hcap, -⟩ := h.form
 rw [hm] at hp hcap ⊢
 obtain ⟨W0, hW⟩ : ∃ W0, (w.alloc (.cells #[.int .i64 (c : Int), .slice a r cap] 65)).alloc mbox = W0 := ⟨_, rfl⟩
 obtain ⟨b0, sz0⟩ := alloc2 w (.cells #[.int .i64 (c : Int), .slice a r cap] 65) mbox
 rw [hW] at b0 sz0
 have pa : Cel W0 w.heap.size 65 [.int .i64 (c : Int), .slice a r cap] := by
  rw [← hW]
  exact (Cel.new w 65 [.int .i64 (c : Int), .slice a r cap]).step ((Below.refl _ _).alloc (Nat.le_refl _) _)
 have PR : Hid (Cel W0 (w.heap.size + 1) 24 [.int .i64 0, .int .i64 0, .slice none 0 0]) := by
  unfold Hid; rw [← hW]
  have := Cel.new (w.alloc (.cells #[.int .i64 (c : Int), .slice a r cap] 65)) 24 [.int .i64 0, .int .i64 0, .slice none 0 0]
  simpa using this
 have hrc : r * c ≤ 64 * 64 := Nat.mul_le_mul hr hc
 have HPL : Hid (pss.length = r) := by unfold Hid; rw [hz.1, hm]
 have HC : Hid (∀ w', Below W0.heap.size W0 w' → Calls Tryz.prog 59 #[.slice a r cap] w' (Catted w' pss.flatten)) := fun w' hb => concat_any ((hp.now b0).now hb) hsm (by rw [HPL.out]; omega) (by omega)
 have ZF := hid (((Zcss.flat hz).now b0))
 obtain ⟨FT, hFT⟩ : ∃ FT, pss.flatten = FT := ⟨_, rfl⟩
 obtain ⟨ZS, hZS⟩ : ∃ ZS, m.flatten = ZS := ⟨_, rfl⟩
 rw [hFT] at HC ZF
 rw [hZS] at ZF hfl ⊢
 have HFL := hid hfl
 have k0 := pa.at (i := 0) rfl
 have k1 := pa.at (i := 1) rfl
 have G := hid b0
 have EW := hid hW
 have SZ := hid sz0
 clear h hp hz hsm hfl b0 sz0 hW pa hFT hZS HPL
 go_enter Tryz.func32, Tryz.ntmps32
 go_wp2_with fail
 rw [EW.out]
 clear EW
 have KB : Hid (∀ w', Below W0.heap.size W0 w' → w'.cell? ⟨w.heap.size, 0, none⟩ = some (.int .i64 (c : Int)) ∧ w'.cell? ⟨w.heap.size, 1, none⟩ = some (.slice a r cap)) := fun w' h => ⟨cnow h k0, cnow h k1⟩
 refine wp_region_tail (fun w' => w'.cell? ⟨w.heap.size, 0, none⟩ = some (.int .i64 (c : Int)) ∧ w'.cell? ⟨w.heap.size, 1, none⟩ = some (.slice a r cap)) 14 (by kernel_rfl) ?_
 obtain ⟨D1, hD⟩ : ∃ D1, W0.drew = D1 := ⟨_, rfl⟩
 have GB : Hid (Below W0.heap.size W0 D1) := by unfold Hid; rw [← hD]; exact (Below.refl _ _).drew
 rw [hD]
 clear hD
 have ld0 := GB.out.size
 refine wpAnyT_take (i := 0) (oi := { dst := some 6, op := Op.fieldAddr 65 (Operand.tmp 1) 1, type := 0, pos := "tape.go:144", after := #[], guard := none }) (v := (.pointer (some ⟨w.heap.size, 1, none⟩))) rfl (by kernel_rfl) (fun _ _ _ h => h) (Or.inl ⟨by rfl, ?_⟩) (KB.out _ GB.out) ?_
 ·intro w hSw
  (try dsimp only at hSw)
  go_simp
 simp only [Act.put, List.setIfInBounds_toArray, List.set_cons_zero, List.set_cons_succ]
 refine wpAnyT_take (i := 1) (oi := { dst := some 7, op := Op.load 63 (Operand.tmp 6), type := 63, pos := "tape.go:144", after := #[{ on := 0, ground := Ground.data }], guard := none }) (v := (.slice a r cap)) rfl (by kernel_rfl) (fun _ _ _ h => h) (Or.inl ⟨by rfl, ?_⟩) (KB.out _ GB.out) ?_
 ·intro w hSw
  (try dsimp only at hSw)
  go_simp
 simp only [Act.put, List.setIfInBounds_toArray, List.set_cons_zero, List.set_cons_succ]
 refine wpAnyT_take (i := 2) (oi := { dst := some 8, op := Op.call { callee := Callee.builtin Builtin.len, args := #[Operand.tmp 7], argTypes := #[63] }, type := 3, pos := "tape.go:144", after := #[{ on := 1, ground := Ground.data }], guard := none }) (v := (.int .i64 (r : Int))) rfl (by kernel_rfl) (fun _ _ _ h => h) (Or.inl ⟨by rfl, ?_⟩) (KB.out _ GB.out) ?_
 ·intro w hSw
  (try dsimp only at hSw)
  go_simp
 simp only [Act.put, List.setIfInBounds_toArray, List.set_cons_zero, List.set_cons_succ]
 refine wpAnyT_take (i := 3) (oi := { dst := some 9, op := Op.fieldAddr 65 (Operand.tmp 1) 0, type := 0, pos := "tape.go:144", after := #[], guard := none }) (v := (.pointer (some ⟨w.heap.size, 0, none⟩))) rfl (by kernel_rfl) (fun _ _ _ h => h) (Or.inl ⟨by rfl, ?_⟩) (KB.out _ GB.out) ?_
 ·intro w hSw
  (try dsimp only at hSw)
  go_simp
 simp only [Act.put, List.setIfInBounds_toArray, List.set_cons_zero, List.set_cons_succ]
 refine wpAnyT_take (i := 4) (oi := { dst := some 10, op := Op.load 3 (Operand.tmp 9), type := 3, pos := "tape.go:144", after := #[{ on := 3, ground := Ground.data }], guard := none }) (v := (.int .i64 (c : Int))) rfl (by kernel_rfl) (fun _ _ _ h => h) (Or.inl ⟨by rfl, ?_⟩) (KB.out _ GB.out) ?_
 ·intro w hSw
  (try dsimp only at hSw)
  go_simp
 simp only [Act.put, List.setIfInBounds_toArray, List.set_cons_zero, List.set_cons_succ]
 refine wpAnyT_take (i := 5) (oi := { dst := some 11, op := Op.fieldAddr 65 (Operand.tmp 1) 1, type := 0, pos := "tape.go:144", after := #[], guard := none }) (v := (.pointer (some ⟨w.heap.size, 1, none⟩))) rfl (by kernel_rfl) (fun _ _ _ h => h) (Or.inl ⟨by rfl, ?_⟩) (KB.out _ GB.out) ?_
 ·intro w hSw
  (try dsimp only at hSw)
  go_simp
 simp only [Act.put, List.setIfInBounds_toArray, List.set_cons_zero, List.set_cons_succ]
 refine wpAnyT_take (i := 6) (oi := { dst := some 12, op := Op.load 63 (Operand.tmp 11), type := 63, pos := "tape.go:144", after := #[{ on := 5, ground := Ground.data }], guard := none }) (v := (.slice a r cap)) rfl (by kernel_rfl) (fun _ _ _ h => h) (Or.inl ⟨by rfl, ?_⟩) (KB.out _ GB.out) ?_
 ·intro w hSw
  (try dsimp only at hSw)
  go_simp
 simp only [Act.put, List.setIfInBounds_toArray, List.set_cons_zero, List.set_cons_succ]
 refine wpAnyT_two (i := 7) (j := 12) (oi := { dst := some 13, op := Op.call { callee := Callee.value (Operand.func 59), args := #[Operand.tmp 12], argTypes := #[63] }, type := 22, pos := "tape.go:144", after := #[{ on := 6, ground := Ground.data }], guard := none }) (oj := { dst := some 3, op := Op.alloc 24, type := 0, pos := "tape.go:144", after := #[], guard := none }) (by kernel_rfl) rfl rfl (fun K hK => ?_) (fun K hK => ?_)
 ·skip
  go_simp
  go_at_call 59
  refine (HC.out _ GB.out).mono ?_
  rintro e w2 ⟨u, rfl, p1, b⟩
  have lz2 := (show Below _ _ _ from b).size
  replace GB := hid (below_step GB.out b)
  have PC := hid p1
  obtain ⟨au, cu, rfl, -, -, -, -⟩ := p1.form
  clear p1
  clear b
  refine hK.out _ _ (fun _ => KB.out _ GB.out) ?_
  clear hK
  refine wpAnyT_two (i := 8) (j := 12) (oi := { dst := some 14, op := Op.call { callee := Callee.value (Operand.func 58), args := #[Operand.tmp 8, Operand.tmp 10, Operand.tmp 13], argTypes := #[3, 3, 22] }, type := 35, pos := "tape.go:144", after := #[{ on := 2, ground := Ground.data }, { on := 4, ground := Ground.data }, { on := 7, ground := Ground.data }, { on := 7, ground := Ground.chain }], guard := none }) (oj := { dst := some 3, op := Op.alloc 24, type := 0, pos := "tape.go:144", after := #[], guard := none }) (by kernel_rfl) rfl rfl (fun K hK => ?_) (fun K hK => ?_)
  ·skip
   go_simp
   go_at_call 58
   refine (make_yes PC.out ((ZF.out.now GB.out).zis) HFL.out hr hc).mono ?_
   rintro e w3 ⟨v2, rfl, hm2, b⟩
   have lz3 := (show Below _ _ _ from b).size
   replace GB := hid (below_step GB.out b)
   obtain ⟨am, cm, rfl, -, -⟩ := hm2.mx.form
   have MM := hid hm2
   clear hm2
   clear b
   refine hK.out _ _ (fun _ => KB.out _ GB.out) ?_
   clear hK
   refine wpAnyT_take (i := 9) (oi := { dst := some 5, op := Op.move (Operand.tmp 14), type := 35, pos := "tape.go:144", after := #[{ on := 8, ground := Ground.data }], guard := none }) (v := (.tuple #[(.agg #[.int .i64 (r : Int), .int .i64 (c : Int), .slice am (r * c) cm]), (.int .i64 0)])) rfl (by kernel_rfl) (fun _ _ _ h => h) (Or.inl ⟨by rfl, ?_⟩) (KB.out _ GB.out) ?_
   ·intro w hSw
    (try dsimp only at hSw)
    go_simp
   simp only [Act.put, List.setIfInBounds_toArray, List.set_cons_zero, List.set_cons_succ]
   refine wpAnyT_take (i := 10) (oi := { dst := some 15, op := Op.extract (Operand.tmp 5) 0, type := 24, pos := "tape.go:144", after := #[{ on := 9, ground := Ground.data }], guard := none }) (v := (.agg #[.int .i64 (r : Int), .int .i64 (c : Int), .slice am (r * c) cm])) rfl (by kernel_rfl) (fun _ _ _ h => h) (Or.inl ⟨by rfl, ?_⟩) (KB.out _ GB.out) ?_
   ·intro w hSw
    (try dsimp only at hSw)
    go_simp
   simp only [Act.put, List.setIfInBounds_toArray, List.set_cons_zero, List.set_cons_succ]
   refine wpAnyT_take (i := 11) (oi := { dst := some 16, op := Op.extract (Operand.tmp 5) 1, type := 30, pos := "tape.go:144", after := #[{ on := 9, ground := Ground.data }, { on := 13, ground := Ground.gcOnly Departure.lateStores }], guard := none }) (v := (.int .i64 0)) rfl (by kernel_rfl) (fun _ _ _ h => h) (Or.inl ⟨by rfl, ?_⟩) (KB.out _ GB.out) ?_
   ·intro w hSw
    (try dsimp only at hSw)
    go_simp
   simp only [Act.put, List.setIfInBounds_toArray, List.set_cons_zero, List.set_cons_succ]
   refine wpAnyT_one (i := 12) (o := { dst := some 3, op := Op.alloc 24, type := 0, pos := "tape.go:144", after := #[], guard := none }) (by kernel_rfl) rfl (fun K hK => ?_)
   go_simp
   obtain ⟨V4, hW⟩ : ∃ V4, w3.alloc mbox = V4 := ⟨_, rfl⟩
   obtain ⟨b, sz4⟩ := alo1 w3 mbox
   rw [hW] at b sz4
   replace GB := hid (below_step GB.out b)
   have PN : Hid (Cel V4 w3.heap.size 24 [.int .i64 0, .int .i64 0, .slice none 0 0]) := by unfold Hid; rw [← hW]; exact Cel.new _ _ _
   have BN : Hid (W0.heap.size ≤ w3.heap.size) := by unfold Hid; omega
   replace MM := hid (MM.out.now b)
   rw [hW]
   clear hW b
   refine hK.out _ _ (fun _ => KB.out _ GB.out) ?_
   clear hK
   try simp only [Act.put]
   refine wpAnyT_one (i := 13) (o := { dst := none, op := Op.store 24 (Operand.tmp 3) (Operand.tmp 15), type := 0, pos := "tape.go:144", after := #[{ on := 12, ground := Ground.data }, { on := 10, ground := Ground.data }, { on := 8, ground := Ground.chain }, { on := 0, ground := Ground.phase }, { on := 1, ground := Ground.phase }, { on := 2, ground := Ground.phase }, { on := 3, ground := Ground.phase }, { on := 4, ground := Ground.phase }, { on := 5, ground := Ground.phase }, { on := 6, ground := Ground.phase }, { on := 7, ground := Ground.phase }, { on := 8, ground := Ground.phase }, { on := 9, ground := Ground.phase }, { on := 10, ground := Ground.phase }, { on := 11, ground := Ground.textOnly Departure.lateStores }, { on := 12, ground := Ground.phase }], guard := none }) (by kernel_rfl) rfl (fun K hK => ?_)
   have r0 := PN.out.at (i := 0) rfl
   have r1 := PN.out.at (i := 1) rfl
   have r2 := PN.out.at (i := 2) rfl
   have f0 := PN.out.fz 0
   have f1 := PN.out.fz 1
   have f2 := PN.out.fz 2
   go_simp
   clear r0 r1 r2 f0 f1 f2
   obtain ⟨V5, hW⟩ : ∃ V5, (((V4.setCell ⟨w3.heap.size, 0, none⟩ (.int .i64 (r : Int))).setCell ⟨w3.heap.size, 1, none⟩ (.int .i64 (c : Int))).setCell ⟨w3.heap.size, 2, none⟩ (.slice am (r * c) cm)) = V5 := ⟨_, rfl⟩
   have BE : Hid (Below W0.heap.size W0 V5) := by unfold Hid; rw [← hW]; exact below_put3 GB.out BN.out _ _ _
   replace GB := BE
   clear BE
   have MF : Hid (Mc V5 (.agg #[.int .i64 (r : Int), .int .i64 (c : Int), .slice am (r * c) cm]) r c ZS k) := by unfold Hid; rw [← hW]; exact MM.out.wk PN.out _ _ _
   have PF : Hid (Cel V5 w3.heap.size 24 [.int .i64 (r : Int), .int .i64 (c : Int), .slice am (r * c) cm]) := by unfold Hid; rw [← hW]; exact PN.out.put3 _ _ _
   clear MM PN
   rw [hW]
   clear hW
   refine hK.out _ _ (fun _ => KB.out _ GB.out) ?_
   clear hK
   try simp only [Act.put]
   refine wpAnyT_one (i := 14) (o := { dst := some 4, op := Op.assign (Operand.tmp 16), type := 30, pos := "tape.go:144", after := #[{ on := 11, ground := Ground.data }, { on := 13, ground := Ground.chain }, { on := 0, ground := Ground.phase }, { on := 1, ground := Ground.phase }, { on := 2, ground := Ground.phase }, { on := 3, ground := Ground.phase }, { on := 4, ground := Ground.phase }, { on := 5, ground := Ground.phase }, { on := 6, ground := Ground.phase }, { on := 7, ground := Ground.phase }, { on := 8, ground := Ground.phase }, { on := 9, ground := Ground.phase }, { on := 10, ground := Ground.phase }, { on := 11, ground := Ground.phase }, { on := 12, ground := Ground.phase }, { on := 13, ground := Ground.phase }], guard := none }) (by kernel_rfl) rfl (fun K hK => ?_)
   go_simp
   refine hK.out _ _ (fun h => absurd h (by decide)) ?_
   clear hK
   try simp only [Act.put]
   refine wpAnyT_done (by kernel_rfl) ?_ _
   have x0 := PF.out.at (i := 0) rfl
   have x1 := PF.out.at (i := 1) rfl
   have x2 := PF.out.at (i := 2) rfl
   have PR2 := hid (PR.out.step GB.out)
   have y0 := PR2.out.at (i := 0) rfl
   have y1 := PR2.out.at (i := 1) rfl
   have y2 := PR2.out.at (i := 2) rfl
   have g0 := PR2.out.fz 0
   have g1 := PR2.out.fz 1
   have g2 := PR2.out.fz 2
   have FIN : Hid (GivesM w r c ZS k (.returned (.agg #[.int .i64 (r : Int), .int .i64 (c : Int), .slice am (r * c) cm])) (put3 V5 (w.heap.size + 1) (.int .i64 (r : Int)) (.int .i64 (c : Int)) (.slice am (r * c) cm))) := ⟨_, rfl, MF.out.wk PR2.out _ _ _, below_put3 (below_step G.out GB.out) (by omega) _ _ _⟩
   have PG := hid (PR2.out.put3 (.int .i64 (r : Int)) (.int .i64 (c : Int)) (.slice am (r * c) cm))
   obtain ⟨L, hL⟩ : ∃ L, r * c = L := ⟨_, rfl⟩
   rw [hL] at FIN PG x2 ⊢
   clear PR PR2 PF MF GB KB HC ZF G k0 k1 hL
   go_wp2
   exact bodyPost_ret (mback Tryz.results32 PG.out _ (by rfl)) rfl FIN.out
  ·skip
   go_simp
   obtain ⟨V6, hW⟩ : ∃ V6, w2.alloc mbox = V6 := ⟨_, rfl⟩
   obtain ⟨b, sz6⟩ := alo1 w2 mbox
   rw [hW] at b sz6
   replace GB := hid (below_step GB.out b)
   have PN : Hid (Cel V6 w2.heap.size 24 [.int .i64 0, .int .i64 0, .slice none 0 0]) := by unfold Hid; rw [← hW]; exact Cel.new _ _ _
   have BN : Hid (W0.heap.size ≤ w2.heap.size) := by unfold Hid; omega
   replace PC := hid (PC.out.now b)
   rw [hW]
   clear hW b
   refine hK.out _ _ (fun _ => KB.out _ GB.out) ?_
   clear hK
   try simp only [Act.put]
   refine wpAnyT_one (i := 8) (o := { dst := some 14, op := Op.call { callee := Callee.value (Operand.func 58), args := #[Operand.tmp 8, Operand.tmp 10, Operand.tmp 13], argTypes := #[3, 3, 22] }, type := 35, pos := "tape.go:144", after := #[{ on := 2, ground := Ground.data }, { on := 4, ground := Ground.data }, { on := 7, ground := Ground.data }, { on := 7, ground := Ground.chain }], guard := none }) (by kernel_rfl) rfl (fun K hK => ?_)
   go_simp
   go_at_call 58
   refine (make_yes PC.out ((ZF.out.now GB.out).zis) HFL.out hr hc).mono ?_
   rintro e w7 ⟨v2, rfl, hm2, b⟩
   have lz7 := (show Below _ _ _ from b).size
   replace GB := hid (below_step GB.out b)
   obtain ⟨am, cm, rfl, -, -⟩ := hm2.mx.form
   have MM := hid hm2
   clear hm2
   replace PN := hid (PN.out.step b)
   clear b
   refine hK.out _ _ (fun _ => KB.out _ GB.out) ?_
   clear hK
   refine wpAnyT_take (i := 9) (oi := { dst := some 5, op := Op.move (Operand.tmp 14), type := 35, pos := "tape.go:144", after := #[{ on := 8, ground := Ground.data }], guard := none }) (v := (.tuple #[(.agg #[.int .i64 (r : Int), .int .i64 (c : Int), .slice am (r * c) cm]), (.int .i64 0)])) rfl (by kernel_rfl) (fun _ _ _ h => h) (Or.inl ⟨by rfl, ?_⟩) (KB.out _ GB.out) ?_
   ·intro w hSw
    (try dsimp only at hSw)
    go_simp
   simp only [Act.put, List.setIfInBounds_toArray, List.set_cons_zero, List.set_cons_succ]
   refine wpAnyT_take (i := 10) (oi := { dst := some 15, op := Op.extract (Operand.tmp 5) 0, type := 24, pos := "tape.go:144", after := #[{ on := 9, ground := Ground.data }], guard := none }) (v := (.agg #[.int .i64 (r : Int), .int .i64 (c : Int), .slice am (r * c) cm])) rfl (by kernel_rfl) (fun _ _ _ h => h) (Or.inl ⟨by rfl, ?_⟩) (KB.out _ GB.out) ?_
   ·intro w hSw
    (try dsimp only at hSw)
    go_simp
   simp only [Act.put, List.setIfInBounds_toArray, List.set_cons_zero, List.set_cons_succ]
   refine wpAnyT_take (i := 11) (oi := { dst := some 16, op := Op.extract (Operand.tmp 5) 1, type := 30, pos := "tape.go:144", after := #[{ on := 9, ground := Ground.data }, { on := 13, ground := Ground.gcOnly Departure.lateStores }], guard := none }) (v := (.int .i64 0)) rfl (by kernel_rfl) (fun _ _ _ h => h) (Or.inl ⟨by rfl, ?_⟩) (KB.out _ GB.out) ?_
   ·intro w hSw
    (try dsimp only at hSw)
    go_simp
   simp only [Act.put, List.setIfInBounds_toArray, List.set_cons_zero, List.set_cons_succ]
   refine wpAnyT_one (i := 13) (o := { dst := none, op := Op.store 24 (Operand.tmp 3) (Operand.tmp 15), type := 0, pos := "tape.go:144", after := #[{ on := 12, ground := Ground.data }, { on := 10, ground := Ground.data }, { on := 8, ground := Ground.chain }, { on := 0, ground := Ground.phase }, { on := 1, ground := Ground.phase }, { on := 2, ground := Ground.phase }, { on := 3, ground := Ground.phase }, { on := 4, ground := Ground.phase }, { on := 5, ground := Ground.phase }, { on := 6, ground := Ground.phase }, { on := 7, ground := Ground.phase }, { on := 8, ground := Ground.phase }, { on := 9, ground := Ground.phase }, { on := 10, ground := Ground.phase }, { on := 11, ground := Ground.textOnly Departure.lateStores }, { on := 12, ground := Ground.phase }], guard := none }) (by kernel_rfl) rfl (fun K hK => ?_)
   have r0 := PN.out.at (i := 0) rfl
   have r1 := PN.out.at (i := 1) rfl
   have r2 := PN.out.at (i := 2) rfl
   have f0 := PN.out.fz 0
   have f1 := PN.out.fz 1
   have f2 := PN.out.fz 2
   go_simp
   clear r0 r1 r2 f0 f1 f2
   obtain ⟨V8, hW⟩ : ∃ V8, (((w7.setCell ⟨w2.heap.size, 0, none⟩ (.int .i64 (r : Int))).setCell ⟨w2.heap.size, 1, none⟩ (.int .i64 (c : Int))).setCell ⟨w2.heap.size, 2, none⟩ (.slice am (r * c) cm)) = V8 := ⟨_, rfl⟩
   have BE : Hid (Below W0.heap.size W0 V8) := by unfold Hid; rw [← hW]; exact below_put3 GB.out BN.out _ _ _
   replace GB := BE
   clear BE
   have MF : Hid (Mc V8 (.agg #[.int .i64 (r : Int), .int .i64 (c : Int), .slice am (r * c) cm]) r c ZS k) := by unfold Hid; rw [← hW]; exact MM.out.wk PN.out _ _ _
   have PF : Hid (Cel V8 w2.heap.size 24 [.int .i64 (r : Int), .int .i64 (c : Int), .slice am (r * c) cm]) := by unfold Hid; rw [← hW]; exact PN.out.put3 _ _ _
   clear MM PN
   rw [hW]
   clear hW
   refine hK.out _ _ (fun _ => KB.out _ GB.out) ?_
   clear hK
   try simp only [Act.put]
   refine wpAnyT_one (i := 14) (o := { dst := some 4, op := Op.assign (Operand.tmp 16), type := 30, pos := "tape.go:144", after := #[{ on := 11, ground := Ground.data }, { on := 13, ground := Ground.chain }, { on := 0, ground := Ground.phase }, { on := 1, ground := Ground.phase }, { on := 2, ground := Ground.phase }, { on := 3, ground := Ground.phase }, { on := 4, ground := Ground.phase }, { on := 5, ground := Ground.phase }, { on := 6, ground := Ground.phase }, { on := 7, ground := Ground.phase }, { on := 8, ground := Ground.phase }, { on := 9, ground := Ground.phase }, { on := 10, ground := Ground.phase }, { on := 11, ground := Ground.phase }, { on := 12, ground := Ground.phase }, { on := 13, ground := Ground.phase }], guard := none }) (by kernel_rfl) rfl (fun K hK => ?_)
   go_simp
   refine hK.out _ _ (fun h => absurd h (by decide)) ?_
   clear hK
   try simp only [Act.put]
   refine wpAnyT_done (by kernel_rfl) ?_ _
   have x0 := PF.out.at (i := 0) rfl
   have x1 := PF.out.at (i := 1) rfl
   have x2 := PF.out.at (i := 2) rfl
   have PR2 := hid (PR.out.step GB.out)
   have y0 := PR2.out.at (i := 0) rfl
   have y1 := PR2.out.at (i := 1) rfl
   have y2 := PR2.out.at (i := 2) rfl
   have g0 := PR2.out.fz 0
   have g1 := PR2.out.fz 1
   have g2 := PR2.out.fz 2
   have FIN : Hid (GivesM w r c ZS k (.returned (.agg #[.int .i64 (r : Int), .int .i64 (c : Int), .slice am (r * c) cm])) (put3 V8 (w.heap.size + 1) (.int .i64 (r : Int)) (.int .i64 (c : Int)) (.slice am (r * c) cm))) := ⟨_, rfl, MF.out.wk PR2.out _ _ _, below_put3 (below_step G.out GB.out) (by omega) _ _ _⟩
   have PG := hid (PR2.out.put3 (.int .i64 (r : Int)) (.int .i64 (c : Int)) (.slice am (r * c) cm))
   obtain ⟨L, hL⟩ : ∃ L, r * c = L := ⟨_, rfl⟩
   rw [hL] at FIN PG x2 ⊢
   clear PR PR2 PF MF GB KB HC ZF G k0 k1 hL
   go_wp2
   exact bodyPost_ret (mback Tryz.results32 PG.out _ (by rfl)) rfl FIN.out
 ·skip
  go_simp
  obtain ⟨V9, hW⟩ : ∃ V9, D1.alloc mbox = V9 := ⟨_, rfl⟩
  obtain ⟨b, sz9⟩ := alo1 D1 mbox
  rw [hW] at b sz9
  replace GB := hid (below_step GB.out b)
  have PN : Hid (Cel V9 D1.heap.size 24 [.int .i64 0, .int .i64 0, .slice none 0 0]) := by unfold Hid; rw [← hW]; exact Cel.new _ _ _
  have BN : Hid (W0.heap.size ≤ D1.heap.size) := by unfold Hid; omega
  rw [hW]
  clear hW b
  refine hK.out _ _ (fun _ => KB.out _ GB.out) ?_
  clear hK
  try simp only [Act.put]
  refine wpAnyT_one (i := 7) (o := { dst := some 13, op := Op.call { callee := Callee.value (Operand.func 59), args := #[Operand.tmp 12], argTypes := #[63] }, type := 22, pos := "tape.go:144", after := #[{ on := 6, ground := Ground.data }], guard := none }) (by kernel_rfl) rfl (fun K hK => ?_)
  go_simp
  go_at_call 59
  refine (HC.out _ GB.out).mono ?_
  rintro e w10 ⟨u, rfl, p1, b⟩
  have lz10 := (show Below _ _ _ from b).size
  replace GB := hid (below_step GB.out b)
  have PC := hid p1
  obtain ⟨au, cu, rfl, -, -, -, -⟩ := p1.form
  clear p1
  replace PN := hid (PN.out.step b)
  clear b
  refine hK.out _ _ (fun _ => KB.out _ GB.out) ?_
  clear hK
  refine wpAnyT_one (i := 8) (o := { dst := some 14, op := Op.call { callee := Callee.value (Operand.func 58), args := #[Operand.tmp 8, Operand.tmp 10, Operand.tmp 13], argTypes := #[3, 3, 22] }, type := 35, pos := "tape.go:144", after := #[{ on := 2, ground := Ground.data }, { on := 4, ground := Ground.data }, { on := 7, ground := Ground.data }, { on := 7, ground := Ground.chain }], guard := none }) (by kernel_rfl) rfl (fun K hK => ?_)
  go_simp
  go_at_call 58
  refine (make_yes PC.out ((ZF.out.now GB.out).zis) HFL.out hr hc).mono ?_
  rintro e w11 ⟨v2, rfl, hm2, b⟩
  have lz11 := (show Below _ _ _ from b).size
  replace GB := hid (below_step GB.out b)
  obtain ⟨am, cm, rfl, -, -⟩ := hm2.mx.form
  have MM := hid hm2
  clear hm2
  replace PN := hid (PN.out.step b)
  clear b
  refine hK.out _ _ (fun _ => KB.out _ GB.out) ?_
  clear hK
  refine wpAnyT_take (i := 9) (oi := { dst := some 5, op := Op.move (Operand.tmp 14), type := 35, pos := "tape.go:144", after := #[{ on := 8, ground := Ground.data }], guard := none }) (v := (.tuple #[(.agg #[.int .i64 (r : Int), .int .i64 (c : Int), .slice am (r * c) cm]), (.int .i64 0)])) rfl (by kernel_rfl) (fun _ _ _ h => h) (Or.inl ⟨by rfl, ?_⟩) (KB.out _ GB.out) ?_
  ·intro w hSw
   (try dsimp only at hSw)
   go_simp
  simp only [Act.put, List.setIfInBounds_toArray, List.set_cons_zero, List.set_cons_succ]
  refine wpAnyT_take (i := 10) (oi := { dst := some 15, op := Op.extract (Operand.tmp 5) 0, type := 24, pos := "tape.go:144", after := #[{ on := 9, ground := Ground.data }], guard := none }) (v := (.agg #[.int .i64 (r : Int), .int .i64 (c : Int), .slice am (r * c) cm])) rfl (by kernel_rfl) (fun _ _ _ h => h) (Or.inl ⟨by rfl, ?_⟩) (KB.out _ GB.out) ?_
  ·intro w hSw
   (try dsimp only at hSw)
   go_simp
  simp only [Act.put, List.setIfInBounds_toArray, List.set_cons_zero, List.set_cons_succ]
  refine wpAnyT_take (i := 11) (oi := { dst := some 16, op := Op.extract (Operand.tmp 5) 1, type := 30, pos := "tape.go:144", after := #[{ on := 9, ground := Ground.data }, { on := 13, ground := Ground.gcOnly Departure.lateStores }], guard := none }) (v := (.int .i64 0)) rfl (by kernel_rfl) (fun _ _ _ h => h) (Or.inl ⟨by rfl, ?_⟩) (KB.out _ GB.out) ?_
  ·intro w hSw
   (try dsimp only at hSw)
   go_simp
  simp only [Act.put, List.setIfInBounds_toArray, List.set_cons_zero, List.set_cons_succ]
  refine wpAnyT_one (i := 13) (o := { dst := none, op := Op.store 24 (Operand.tmp 3) (Operand.tmp 15), type := 0, pos := "tape.go:144", after := #[{ on := 12, ground := Ground.data }, { on := 10, ground := Ground.data }, { on := 8, ground := Ground.chain }, { on := 0, ground := Ground.phase }, { on := 1, ground := Ground.phase }, { on := 2, ground := Ground.phase }, { on := 3, ground := Ground.phase }, { on := 4, ground := Ground.phase }, { on := 5, ground := Ground.phase }, { on := 6, ground := Ground.phase }, { on := 7, ground := Ground.phase }, { on := 8, ground := Ground.phase }, { on := 9, ground := Ground.phase }, { on := 10, ground := Ground.phase }, { on := 11, ground := Ground.textOnly Departure.lateStores }, { on := 12, ground := Ground.phase }], guard := none }) (by kernel_rfl) rfl (fun K hK => ?_)
  have r0 := PN.out.at (i := 0) rfl
  have r1 := PN.out.at (i := 1) rfl
  have r2 := PN.out.at (i := 2) rfl
  have f0 := PN.out.fz 0
  have f1 := PN.out.fz 1
  have f2 := PN.out.fz 2
  go_simp
  clear r0 r1 r2 f0 f1 f2
  obtain ⟨V12, hW⟩ : ∃ V12, (((w11.setCell ⟨D1.heap.size, 0, none⟩ (.int .i64 (r : Int))).setCell ⟨D1.heap.size, 1, none⟩ (.int .i64 (c : Int))).setCell ⟨D1.heap.size, 2, none⟩ (.slice am (r * c) cm)) = V12 := ⟨_, rfl⟩
  have BE : Hid (Below W0.heap.size W0 V12) := by unfold Hid; rw [← hW]; exact below_put3 GB.out BN.out _ _ _
  replace GB := BE
  clear BE
  have MF : Hid (Mc V12 (.agg #[.int .i64 (r : Int), .int .i64 (c : Int), .slice am (r * c) cm]) r c ZS k) := by unfold Hid; rw [← hW]; exact MM.out.wk PN.out _ _ _
  have PF : Hid (Cel V12 D1.heap.size 24 [.int .i64 (r : Int), .int .i64 (c : Int), .slice am (r * c) cm]) := by unfold Hid; rw [← hW]; exact PN.out.put3 _ _ _
  clear MM PN
  rw [hW]
  clear hW
  refine hK.out _ _ (fun _ => KB.out _ GB.out) ?_
  clear hK
  try simp only [Act.put]
  refine wpAnyT_one (i := 14) (o := { dst := some 4, op := Op.assign (Operand.tmp 16), type := 30, pos := "tape.go:144", after := #[{ on := 11, ground := Ground.data }, { on := 13, ground := Ground.chain }, { on := 0, ground := Ground.phase }, { on := 1, ground := Ground.phase }, { on := 2, ground := Ground.phase }, { on := 3, ground := Ground.phase }, { on := 4, ground := Ground.phase }, { on := 5, ground := Ground.phase }, { on := 6, ground := Ground.phase }, { on := 7, ground := Ground.phase }, { on := 8, ground := Ground.phase }, { on := 9, ground := Ground.phase }, { on := 10, ground := Ground.phase }, { on := 11, ground := Ground.phase }, { on := 12, ground := Ground.phase }, { on := 13, ground := Ground.phase }], guard := none }) (by kernel_rfl) rfl (fun K hK => ?_)
  go_simp
  refine hK.out _ _ (fun h => absurd h (by decide)) ?_
  clear hK
  try simp only [Act.put]
  refine wpAnyT_done (by kernel_rfl) ?_ _
  have x0 := PF.out.at (i := 0) rfl
  have x1 := PF.out.at (i := 1) rfl
  have x2 := PF.out.at (i := 2) rfl
  have PR2 := hid (PR.out.step GB.out)
  have y0 := PR2.out.at (i := 0) rfl
  have y1 := PR2.out.at (i := 1) rfl
  have y2 := PR2.out.at (i := 2) rfl
  have g0 := PR2.out.fz 0
  have g1 := PR2.out.fz 1
  have g2 := PR2.out.fz 2
  have FIN : Hid (GivesM w r c ZS k (.returned (.agg #[.int .i64 (r : Int), .int .i64 (c : Int), .slice am (r * c) cm])) (put3 V12 (w.heap.size + 1) (.int .i64 (r : Int)) (.int .i64 (c : Int)) (.slice am (r * c) cm))) := ⟨_, rfl, MF.out.wk PR2.out _ _ _, below_put3 (below_step G.out GB.out) (by omega) _ _ _⟩
  have PG := hid (PR2.out.put3 (.int .i64 (r : Int)) (.int .i64 (c : Int)) (.slice am (r * c) cm))
  obtain ⟨L, hL⟩ : ∃ L, r * c = L := ⟨_, rfl⟩
  rw [hL] at FIN PG x2 ⊢
  clear PR PR2 PF MF GB KB HC ZF G k0 k1 hL
  go_wp2
  exact bodyPost_ret (mback Tryz.results32 PG.out _ (by rfl)) rfl FIN.out
end Go.Proofs.YtnpcfohimlfbdaaGreat
