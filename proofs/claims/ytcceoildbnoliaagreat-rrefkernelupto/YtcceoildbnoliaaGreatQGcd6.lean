/-
  Gcd6: Gcd, Lcm.
-/
import Derived.Test.YtcceoildbnoliaaGreatQTailToMWord
import Derived.Test.YtcceoildbnoliaaGreatQGcdAll
import Derived.Test.YtcceoildbnoliaaGreatQExtPure
namespace Go.Proofs.YtcceoildbnoliaaGreat
open Go.RowKit
set_option linter.unusedVariables false

theorem ig_vals {n m : Bool} {xs ys : List Int} {A B : Int} (hx : WF xs) (hy : WF ys) (ha : iv n xs = A) (hb : iv m ys = B) : (ig (val xs) (val ys) : Int) = (Int.gcd A B : Int) := by
  rw [iv_abs hx ha, iv_abs hy hb]
  rfl
theorem gcd_lt {A B : Int} {k : Nat} (hA : (A.natAbs : Int) < pw k) (hB : (B.natAbs : Int) < pw k) : ((Int.gcd A B : Int).natAbs : Int) < pw k := by
  have h := pw_pos k
  by_cases e : A = 0
  · subst e
    simp only [Int.gcd, Int.natAbs_zero, Nat.gcd_zero_left]
    omega
  · have := Nat.le_of_dvd (show 0 < A.natAbs by omega) (Nat.gcd_dvd_left A.natAbs B.natAbs)
    simp only [Int.gcd]
    omega
/-- The least common multiple. -/
def lcmv (A B : Int) : Int := ((A.tdiv (Int.gcd A B : Int) * B).natAbs : Int)
theorem gcd_div (A B : Int) : (Int.gcd A B : Int) ≠ 0 → A.tmod (Int.gcd A B : Int) = 0 := fun _ => Int.tmod_eq_zero_of_dvd (Int.gcd_dvd_left ..)
theorem tdiv_natAbs_le (A g : Int) : (A.tdiv g).natAbs ≤ A.natAbs := by
  rw [Int.natAbs_tdiv]
  exact Nat.div_le_self _ _

set_option maxHeartbeats 6400000 in
set_option maxRecDepth 100000 in
theorem gcd_z {w : World} {va vb : Value} {A B : Int} {k : Nat} (ha : Zi w va A k) (hb : Zi w vb B k) (hk : k ≤ 68719476736) :
    Calls Tryz.prog 70 #[va, vb] w (GivesZ w (Int.gcd A B : Int) k) := by
  have LA := hid ha.lt
  have LB := hid hb.lt
  have za0 := ha
  obtain ⟨na, xa, ada, ca, rfl, sa, ea, la⟩ := ha
  have zb0 := hb
  obtain ⟨nb, xb, adb, cb, rfl, sb, eb, lb⟩ := hb
  obtain ⟨W0, hW⟩ : ∃ W0, ((w.alloc (duo (.bool na) (.slice ada xa.length ca))).alloc (duo (.bool nb) (.slice adb xb.length cb))).alloc zbox = W0 := ⟨_, rfl⟩
  obtain ⟨b0, sz0⟩ := alloc3 w (duo (.bool na) (.slice ada xa.length ca)) (duo (.bool nb) (.slice adb xb.length cb)) zbox
  rw [hW] at b0 sz0
  have Pa : Hid (Duo W0 (w.heap.size) (.bool na) (.slice ada xa.length ca)) := by unfold Hid; rw [← hW]; exact duo_late (duo_late (duo_at (by simp)) _) _
  have Pb : Hid (Duo W0 (w.heap.size + 1) (.bool nb) (.slice adb xb.length cb)) := by unfold Hid; rw [← hW]; exact duo_late (duo_at (by simp)) _
  have PRG : Hid (Duo W0 (w.heap.size + 1 + 1) (.bool false) (.slice none 0 0)) := by unfold Hid; rw [← hW]; exact duo_at (by simp)
  have Za := hid (za0.now b0)
  clear za0
  have Sa := hid (sa.now b0)
  clear sa
  have Zb := hid (zb0.now b0)
  clear zb0
  have Sb := hid (sb.now b0)
  clear sb
  have G := hid b0
  clear b0
  have EW := hid hW
  clear hW
  go_enter Tryz.func70, Tryz.ntmps70
  have IG := hid (ig_vals Sa.out.1 Sb.out.1 ea eb)
  clear ea eb
  have ca0 := Pa.out.c0
  have ca1 := Pa.out.c1
  have cb0 := Pb.out.c0
  have cb1 := Pb.out.c1
  rw [← EW.out] at ca0 ca1 cb0 cb1
  go_wp2_with fail
  rw [EW.out]
  clear EW
  clear ca0 ca1 cb0 cb1
  refine (gcd_any Sa.out Sb.out (by omega) (by omega)).mono ?_
  rintro e w1 ⟨zs, r, rfl, ho, hc, hv, b⟩
  obtain ⟨az, cz, rfl⟩ := ho.form
  have HM := hid ho.mine5
  have HC := hid hc
  have HV : Hid (val zs = (Int.gcd A B : Int)) := hv.trans IG.out
  have hl : Hid (zs.length ≤ k) := canon_len hc (by rw [HV.out]; exact Int.lt_of_le_of_lt (by omega) (gcd_lt LA.out LB.out))
  replace Za := hid (Za.out.now b)
  replace Zb := hid (Zb.out.now b)
  replace Pa := hid (Pa.out.step b)
  replace Pb := hid (Pb.out.step b)
  replace PRG := hid (PRG.out.step b)
  replace Sa := hid (Sa.out.now b)
  replace Sb := hid (Sb.out.now b)
  replace G := hid (below_step G.out b)
  have lz1 := (show Below _ _ _ from b).size
  clear b ho hc hv
  have cRG0 := PRG.out.c0
  have cRG1 := PRG.out.c1
  have fRG0 := PRG.out.fz 0
  have fRG1 := PRG.out.fz 1
  have FIN : Hid (Zm W0.heap.size w1 (.agg #[.bool false, .slice az zs.length cz]) (Int.gcd A B : Int) k) := by
    unfold Hid
    have q := zm_of (n := false) HM.out HC.out hl.out
    rw [iv_pos, HV.out] at q
    exact q
  go_wp2
  exact bodyPost_ret (zback Tryz.results70 (PRG.out.set _ _) _ (by rfl)) rfl (gz_end (B := W0.heap.size) FIN.out G.out (by omega) (by omega))

set_option maxHeartbeats 6400000 in
set_option maxRecDepth 100000 in
theorem lcm_none {w : World} {va vb : Value} {A B : Int} {k : Nat} (ha : Zi w va A k) (hb : Zi w vb B k) (hk : k ≤ 68719476736) (h0 : (Int.gcd A B : Int) = 0) :
    Calls Tryz.prog 101 #[va, vb] w (GivesZ w (lcmv A B) (k + k)) := by
  have H0 := hid h0
  clear h0
  have EZ : Hid (((0 : Int) * B).natAbs = (A.tdiv (Int.gcd A B : Int) * B).natAbs) := by unfold Hid; rw [H0.out]; simp
  unfold lcmv
  have za0 := ha
  obtain ⟨na, xa, ada, ca, rfl, -, -, -⟩ := ha
  have zb0 := hb
  obtain ⟨nb, xb, adb, cb, rfl, -, -, -⟩ := hb
  obtain ⟨W0, hW⟩ : ∃ W0, ((w.alloc (duo (.bool na) (.slice ada xa.length ca))).alloc (duo (.bool nb) (.slice adb xb.length cb))).alloc zbox = W0 := ⟨_, rfl⟩
  obtain ⟨b0, sz0⟩ := alloc3 w (duo (.bool na) (.slice ada xa.length ca)) (duo (.bool nb) (.slice adb xb.length cb)) zbox
  rw [hW] at b0 sz0
  have Pa : Hid (Duo W0 (w.heap.size) (.bool na) (.slice ada xa.length ca)) := by unfold Hid; rw [← hW]; exact duo_late (duo_late (duo_at (by simp)) _) _
  have Pb : Hid (Duo W0 (w.heap.size + 1) (.bool nb) (.slice adb xb.length cb)) := by unfold Hid; rw [← hW]; exact duo_late (duo_at (by simp)) _
  have PRG : Hid (Duo W0 (w.heap.size + 1 + 1) (.bool false) (.slice none 0 0)) := by unfold Hid; rw [← hW]; exact duo_at (by simp)
  have Za := hid (za0.now b0)
  clear za0
  have Zb := hid (zb0.now b0)
  clear zb0
  have G := hid b0
  clear b0
  have EW := hid hW
  clear hW
  go_enter Tryz.func101, Tryz.ntmps101
  skip
  go_wp2_with fail
  rw [EW.out]
  clear EW
  go_cut [5] from 7 (fun s1 wx => MetB W0 wx s1 (0) (k))
  case first =>
    have GR : Hid (Below W0.heap.size W0 W0) := Below.refl _ _
    refine wp_region_tail (fun w' => w'.cell? ⟨w.heap.size, 0, none⟩ = some (.bool na) ∧ w'.cell? ⟨w.heap.size, 1, none⟩ = some (.slice ada xa.length ca) ∧ w'.cell? ⟨w.heap.size + 1, 0, none⟩ = some (.bool nb) ∧ w'.cell? ⟨w.heap.size + 1, 1, none⟩ = some (.slice adb xb.length cb)) 10 (by kernel_rfl) ?_
    obtain ⟨D1, hD⟩ : ∃ D1, W0.drew = D1 := ⟨_, rfl⟩
    have b : Below W0.heap.size W0 D1 := by rw [← hD]; exact (Below.refl _ _).drew
    rw [hD]
    clear hD
    replace Za := hid (Za.out.now b)
    replace Zb := hid (Zb.out.now b)
    replace Pa := hid (Pa.out.step b)
    replace Pb := hid (Pb.out.step b)
    replace PRG := hid (PRG.out.step b)
    replace G := hid (below_step G.out b)
    replace GR := hid (below_step GR.out b)
    have lz2 := (show Below _ _ _ from b).size
    clear b
    refine wpAnyT_take (i := 0) (oi := { dst := some 8, op := Op.load 45 (Operand.tmp 2), type := 45, pos := "bezout.go:30", after := #[], guard := none }) (v := (.agg #[(.bool na), (.slice ada xa.length ca)])) rfl (by kernel_rfl) (fun _ _ _ h => h) (Or.inl ⟨by rfl, ?_⟩) ⟨Pa.out.c0, Pa.out.c1, Pb.out.c0, Pb.out.c1⟩ ?_
    · intro w hSw
      (try dsimp only at hSw)
      go_simp
    simp only [Act.put, List.setIfInBounds_toArray, List.set_cons_zero, List.set_cons_succ]
    refine wpAnyT_take (i := 1) (oi := { dst := some 9, op := Op.load 45 (Operand.tmp 2), type := 45, pos := "bezout.go:30", after := #[], guard := none }) (v := (.agg #[(.bool na), (.slice ada xa.length ca)])) rfl (by kernel_rfl) (fun _ _ _ h => h) (Or.inl ⟨by rfl, ?_⟩) ⟨Pa.out.c0, Pa.out.c1, Pb.out.c0, Pb.out.c1⟩ ?_
    · intro w hSw
      (try dsimp only at hSw)
      go_simp
    simp only [Act.put, List.setIfInBounds_toArray, List.set_cons_zero, List.set_cons_succ]
    refine wpAnyT_take (i := 2) (oi := { dst := some 10, op := Op.load 45 (Operand.tmp 3), type := 45, pos := "bezout.go:30", after := #[], guard := none }) (v := (.agg #[(.bool nb), (.slice adb xb.length cb)])) rfl (by kernel_rfl) (fun _ _ _ h => h) (Or.inl ⟨by rfl, ?_⟩) ⟨Pa.out.c0, Pa.out.c1, Pb.out.c0, Pb.out.c1⟩ ?_
    · intro w hSw
      (try dsimp only at hSw)
      go_simp
    simp only [Act.put, List.setIfInBounds_toArray, List.set_cons_zero, List.set_cons_succ]
    refine wpAnyT_two (i := 3) (j := 8) (oi := { dst := some 11, op := Op.call { callee := Callee.value (Operand.func 70), args := #[Operand.tmp 9, Operand.tmp 10], argTypes := #[45, 45] }, type := 45, pos := "bezout.go:30", after := #[{ on := 1, ground := Ground.data }, { on := 2, ground := Ground.data }], guard := none }) (oj := { dst := some 5, op := Op.alloc 45, type := 0, pos := "bezout.go:30", after := #[], guard := none }) (by kernel_rfl) rfl rfl (fun K hK => ?_) (fun K hK => ?_)
    · skip
      go_simp
      go_at_call 70
      refine (gcd_z Za.out Zb.out hk).mono ?_
      rintro e w3 ⟨r0, rfl, m0, b⟩
      obtain ⟨ng, xg, adg, qg, rfl, -, -, -, -, -⟩ := id m0
      replace Za := hid (Za.out.now b)
      replace Zb := hid (Zb.out.now b)
      replace Pa := hid (Pa.out.step b)
      replace Pb := hid (Pb.out.step b)
      replace PRG := hid (PRG.out.step b)
      replace G := hid (below_step G.out b)
      replace GR := hid (below_step GR.out b)
      have lz4 := (show Below _ _ _ from b).size
      have Zg := hid m0
      clear b m0
      refine hK.out _ _ (fun _ => ⟨Pa.out.c0, Pa.out.c1, Pb.out.c0, Pb.out.c1⟩) ?_
      clear hK
      refine wpAnyT_two (i := 4) (j := 8) (oi := { dst := some 12, op := Op.call { callee := Callee.value (Operand.func 84), args := #[Operand.tmp 8, Operand.tmp 11], argTypes := #[45, 45] }, type := 90, pos := "bezout.go:30", after := #[{ on := 0, ground := Ground.data }, { on := 3, ground := Ground.data }, { on := 3, ground := Ground.chain }], guard := none }) (oj := { dst := some 5, op := Op.alloc 45, type := 0, pos := "bezout.go:30", after := #[], guard := none }) (by kernel_rfl) rfl rfl (fun K hK => ?_) (fun K hK => ?_)
      · skip
        go_simp
        go_at_call 84
        refine (exact_none Za.out Zg.out.zi H0.out).mono ?_
        rintro e w5 ⟨r0, rfl, m0, b⟩
        obtain ⟨nt, xt, adt, qt, rfl, -, -, -, -, -⟩ := id m0
        replace Za := hid (Za.out.now b)
        replace Zb := hid (Zb.out.now b)
        replace Zg := hid (Zg.out.now b)
        replace Pa := hid (Pa.out.step b)
        replace Pb := hid (Pb.out.step b)
        replace PRG := hid (PRG.out.step b)
        replace G := hid (below_step G.out b)
        replace GR := hid (below_step GR.out b)
        have lz6 := (show Below _ _ _ from b).size
        have Zt := hid m0
        clear b m0
        refine hK.out _ _ (fun _ => ⟨Pa.out.c0, Pa.out.c1, Pb.out.c0, Pb.out.c1⟩) ?_
        clear hK
        refine wpAnyT_take (i := 5) (oi := { dst := some 7, op := Op.move (Operand.tmp 12), type := 90, pos := "bezout.go:30", after := #[{ on := 4, ground := Ground.data }], guard := none }) (v := (.tuple #[(.agg #[.bool nt, .slice adt xt.length qt]), (.int .i64 4)])) rfl (by kernel_rfl) (fun _ _ _ h => h) (Or.inl ⟨by rfl, ?_⟩) ⟨Pa.out.c0, Pa.out.c1, Pb.out.c0, Pb.out.c1⟩ ?_
        · intro w hSw
          (try dsimp only at hSw)
          go_simp
        simp only [Act.put, List.setIfInBounds_toArray, List.set_cons_zero, List.set_cons_succ]
        refine wpAnyT_take (i := 6) (oi := { dst := some 13, op := Op.extract (Operand.tmp 7) 0, type := 45, pos := "bezout.go:30", after := #[{ on := 5, ground := Ground.data }], guard := none }) (v := (.agg #[.bool nt, .slice adt xt.length qt])) rfl (by kernel_rfl) (fun _ _ _ h => h) (Or.inl ⟨by rfl, ?_⟩) ⟨Pa.out.c0, Pa.out.c1, Pb.out.c0, Pb.out.c1⟩ ?_
        · intro w hSw
          (try dsimp only at hSw)
          go_simp
        simp only [Act.put, List.setIfInBounds_toArray, List.set_cons_zero, List.set_cons_succ]
        refine wpAnyT_take (i := 7) (oi := { dst := some 14, op := Op.extract (Operand.tmp 7) 1, type := 27, pos := "bezout.go:30", after := #[{ on := 5, ground := Ground.data }, { on := 9, ground := Ground.gcOnly Departure.lateStores }], guard := none }) (v := (.int .i64 4)) rfl (by kernel_rfl) (fun _ _ _ h => h) (Or.inl ⟨by rfl, ?_⟩) ⟨Pa.out.c0, Pa.out.c1, Pb.out.c0, Pb.out.c1⟩ ?_
        · intro w hSw
          (try dsimp only at hSw)
          go_simp
        simp only [Act.put, List.setIfInBounds_toArray, List.set_cons_zero, List.set_cons_succ]
        refine wpAnyT_one (i := 8) (o := { dst := some 5, op := Op.alloc 45, type := 0, pos := "bezout.go:30", after := #[], guard := none }) (by kernel_rfl) rfl (fun K hK => ?_)
        go_simp
        obtain ⟨V7, hW⟩ : ∃ V7, w5.alloc zbox = V7 := ⟨_, rfl⟩
        obtain ⟨kW, sz7⟩ := alloc1 w5 zbox
        rw [hW] at kW sz7
        replace Za := hid (Za.out.now kW)
        replace Zb := hid (Zb.out.now kW)
        replace Zg := hid (Zg.out.now kW)
        replace Zt := hid (Zt.out.now kW)
        replace Pa := hid (Pa.out.step kW)
        replace Pb := hid (Pb.out.step kW)
        replace PRG := hid (PRG.out.step kW)
        replace G := hid (below_step G.out kW)
        replace GR := hid (below_step GR.out kW)
        have lz8 := (show Below _ _ _ from kW).size
        have PN5 : Hid (Duo V7 (w5.heap.size) (.bool false) (.slice none 0 0)) := by unfold Hid; rw [← hW]; exact duo_at rfl
        rw [hW]
        clear hW kW
        refine hK.out _ _ (fun _ => ⟨Pa.out.c0, Pa.out.c1, Pb.out.c0, Pb.out.c1⟩) ?_
        clear hK
        try simp only [Act.put]
        refine wpAnyT_one (i := 9) (o := { dst := none, op := Op.store 45 (Operand.tmp 5) (Operand.tmp 13), type := 0, pos := "bezout.go:30", after := #[{ on := 8, ground := Ground.data }, { on := 6, ground := Ground.data }, { on := 4, ground := Ground.chain }, { on := 0, ground := Ground.phase }, { on := 1, ground := Ground.phase }, { on := 2, ground := Ground.phase }, { on := 3, ground := Ground.phase }, { on := 4, ground := Ground.phase }, { on := 5, ground := Ground.phase }, { on := 6, ground := Ground.phase }, { on := 7, ground := Ground.textOnly Departure.lateStores }, { on := 8, ground := Ground.phase }], guard := none }) (by kernel_rfl) rfl (fun K hK => ?_)
        have cN50 := PN5.out.c0
        have cN51 := PN5.out.c1
        have fN50 := PN5.out.fz 0
        have fN51 := PN5.out.fz 1
        go_simp
        clear cN50 cN51 fN50 fN51
        obtain ⟨V9, hW⟩ : ∃ V9, (V7.setCell ⟨w5.heap.size, 0, none⟩ (.bool nt)).setCell ⟨w5.heap.size, 1, none⟩ (.slice adt xt.length qt) = V9 := ⟨_, rfl⟩
        replace Za := hid ((Za.out).wk ((PN5.out).wk (.bool nt) (.slice adt xt.length qt)))
        replace Zb := hid ((Zb.out).wk ((PN5.out).wk (.bool nt) (.slice adt xt.length qt)))
        replace Zg := hid ((Zg.out).box (PN5.out) (.bool nt) (.slice adt xt.length qt))
        replace Zt := hid ((Zt.out).box (PN5.out) (.bool nt) (.slice adt xt.length qt))
        replace Pa := hid ((Pa.out).box (b' := w5.heap.size) (by omega) (.bool nt) (.slice adt xt.length qt))
        replace Pb := hid ((Pb.out).box (b' := w5.heap.size) (by omega) (.bool nt) (.slice adt xt.length qt))
        replace PRG := hid ((PRG.out).box (b' := w5.heap.size) (by omega) (.bool nt) (.slice adt xt.length qt))
        replace PN5 := hid ((PN5.out).set (.bool nt) (.slice adt xt.length qt))
        replace G : Hid (Below w.heap.size w (((V7.setCell ⟨w5.heap.size, 0, none⟩ (.bool nt)).setCell ⟨w5.heap.size, 1, none⟩ (.slice adt xt.length qt)))) := bset (bset (G.out) (by omega)) (by omega)
        replace GR : Hid (Below W0.heap.size W0 (((V7.setCell ⟨w5.heap.size, 0, none⟩ (.bool nt)).setCell ⟨w5.heap.size, 1, none⟩ (.slice adt xt.length qt)))) := bset (bset (GR.out) (by omega)) (by omega)
        have sz9 : V9.heap.size = V7.heap.size := by rw [← hW]; simp
        rw [hW] at Za Zb Zg Zt Pa Pb PRG PN5 G GR
        rw [hW]
        clear hW
        refine hK.out _ _ (fun _ => ⟨Pa.out.c0, Pa.out.c1, Pb.out.c0, Pb.out.c1⟩) ?_
        clear hK
        try simp only [Act.put]
        refine wpAnyT_one (i := 10) (o := { dst := some 6, op := Op.assign (Operand.tmp 14), type := 27, pos := "bezout.go:30", after := #[{ on := 7, ground := Ground.data }, { on := 9, ground := Ground.chain }, { on := 0, ground := Ground.phase }, { on := 1, ground := Ground.phase }, { on := 2, ground := Ground.phase }, { on := 3, ground := Ground.phase }, { on := 4, ground := Ground.phase }, { on := 5, ground := Ground.phase }, { on := 6, ground := Ground.phase }, { on := 7, ground := Ground.phase }, { on := 8, ground := Ground.phase }, { on := 9, ground := Ground.phase }], guard := none }) (by kernel_rfl) rfl (fun K hK => ?_)
        go_simp
        refine hK.out _ _ (fun h => absurd h (by decide)) ?_
        clear hK
        try simp only [Act.put]
        refine wpAnyT_done (by kernel_rfl) ?_ _
        go_wp2_with fail
        go_meet
        exact ⟨_, _, _, _, _, rfl, GR.out, by omega, PN5.out.blk, PN5.out, Zt.out.mono (by omega)⟩
      · skip
        go_simp
        obtain ⟨V10, hW⟩ : ∃ V10, w3.alloc zbox = V10 := ⟨_, rfl⟩
        obtain ⟨kW, sz10⟩ := alloc1 w3 zbox
        rw [hW] at kW sz10
        replace Za := hid (Za.out.now kW)
        replace Zb := hid (Zb.out.now kW)
        replace Zg := hid (Zg.out.now kW)
        replace Pa := hid (Pa.out.step kW)
        replace Pb := hid (Pb.out.step kW)
        replace PRG := hid (PRG.out.step kW)
        replace G := hid (below_step G.out kW)
        replace GR := hid (below_step GR.out kW)
        have lz11 := (show Below _ _ _ from kW).size
        have PN5 : Hid (Duo V10 (w3.heap.size) (.bool false) (.slice none 0 0)) := by unfold Hid; rw [← hW]; exact duo_at rfl
        rw [hW]
        clear hW kW
        refine hK.out _ _ (fun _ => ⟨Pa.out.c0, Pa.out.c1, Pb.out.c0, Pb.out.c1⟩) ?_
        clear hK
        try simp only [Act.put]
        refine wpAnyT_one (i := 4) (o := { dst := some 12, op := Op.call { callee := Callee.value (Operand.func 84), args := #[Operand.tmp 8, Operand.tmp 11], argTypes := #[45, 45] }, type := 90, pos := "bezout.go:30", after := #[{ on := 0, ground := Ground.data }, { on := 3, ground := Ground.data }, { on := 3, ground := Ground.chain }], guard := none }) (by kernel_rfl) rfl (fun K hK => ?_)
        go_simp
        go_at_call 84
        refine (exact_none Za.out Zg.out.zi H0.out).mono ?_
        rintro e w12 ⟨r0, rfl, m0, b⟩
        obtain ⟨nt, xt, adt, qt, rfl, -, -, -, -, -⟩ := id m0
        replace Za := hid (Za.out.now b)
        replace Zb := hid (Zb.out.now b)
        replace Zg := hid (Zg.out.now b)
        replace Pa := hid (Pa.out.step b)
        replace Pb := hid (Pb.out.step b)
        replace PRG := hid (PRG.out.step b)
        replace PN5 := hid (PN5.out.step b)
        replace G := hid (below_step G.out b)
        replace GR := hid (below_step GR.out b)
        have lz13 := (show Below _ _ _ from b).size
        have Zt := hid m0
        clear b m0
        refine hK.out _ _ (fun _ => ⟨Pa.out.c0, Pa.out.c1, Pb.out.c0, Pb.out.c1⟩) ?_
        clear hK
        refine wpAnyT_take (i := 5) (oi := { dst := some 7, op := Op.move (Operand.tmp 12), type := 90, pos := "bezout.go:30", after := #[{ on := 4, ground := Ground.data }], guard := none }) (v := (.tuple #[(.agg #[.bool nt, .slice adt xt.length qt]), (.int .i64 4)])) rfl (by kernel_rfl) (fun _ _ _ h => h) (Or.inl ⟨by rfl, ?_⟩) ⟨Pa.out.c0, Pa.out.c1, Pb.out.c0, Pb.out.c1⟩ ?_
        · intro w hSw
          (try dsimp only at hSw)
          go_simp
        simp only [Act.put, List.setIfInBounds_toArray, List.set_cons_zero, List.set_cons_succ]
        refine wpAnyT_take (i := 6) (oi := { dst := some 13, op := Op.extract (Operand.tmp 7) 0, type := 45, pos := "bezout.go:30", after := #[{ on := 5, ground := Ground.data }], guard := none }) (v := (.agg #[.bool nt, .slice adt xt.length qt])) rfl (by kernel_rfl) (fun _ _ _ h => h) (Or.inl ⟨by rfl, ?_⟩) ⟨Pa.out.c0, Pa.out.c1, Pb.out.c0, Pb.out.c1⟩ ?_
        · intro w hSw
          (try dsimp only at hSw)
          go_simp
        simp only [Act.put, List.setIfInBounds_toArray, List.set_cons_zero, List.set_cons_succ]
        refine wpAnyT_take (i := 7) (oi := { dst := some 14, op := Op.extract (Operand.tmp 7) 1, type := 27, pos := "bezout.go:30", after := #[{ on := 5, ground := Ground.data }, { on := 9, ground := Ground.gcOnly Departure.lateStores }], guard := none }) (v := (.int .i64 4)) rfl (by kernel_rfl) (fun _ _ _ h => h) (Or.inl ⟨by rfl, ?_⟩) ⟨Pa.out.c0, Pa.out.c1, Pb.out.c0, Pb.out.c1⟩ ?_
        · intro w hSw
          (try dsimp only at hSw)
          go_simp
        simp only [Act.put, List.setIfInBounds_toArray, List.set_cons_zero, List.set_cons_succ]
        refine wpAnyT_one (i := 9) (o := { dst := none, op := Op.store 45 (Operand.tmp 5) (Operand.tmp 13), type := 0, pos := "bezout.go:30", after := #[{ on := 8, ground := Ground.data }, { on := 6, ground := Ground.data }, { on := 4, ground := Ground.chain }, { on := 0, ground := Ground.phase }, { on := 1, ground := Ground.phase }, { on := 2, ground := Ground.phase }, { on := 3, ground := Ground.phase }, { on := 4, ground := Ground.phase }, { on := 5, ground := Ground.phase }, { on := 6, ground := Ground.phase }, { on := 7, ground := Ground.textOnly Departure.lateStores }, { on := 8, ground := Ground.phase }], guard := none }) (by kernel_rfl) rfl (fun K hK => ?_)
        have cN50 := PN5.out.c0
        have cN51 := PN5.out.c1
        have fN50 := PN5.out.fz 0
        have fN51 := PN5.out.fz 1
        go_simp
        clear cN50 cN51 fN50 fN51
        obtain ⟨V14, hW⟩ : ∃ V14, (w12.setCell ⟨w3.heap.size, 0, none⟩ (.bool nt)).setCell ⟨w3.heap.size, 1, none⟩ (.slice adt xt.length qt) = V14 := ⟨_, rfl⟩
        replace Za := hid ((Za.out).wk ((PN5.out).wk (.bool nt) (.slice adt xt.length qt)))
        replace Zb := hid ((Zb.out).wk ((PN5.out).wk (.bool nt) (.slice adt xt.length qt)))
        replace Zg := hid ((Zg.out).box (PN5.out) (.bool nt) (.slice adt xt.length qt))
        replace Zt := hid ((Zt.out).box (PN5.out) (.bool nt) (.slice adt xt.length qt))
        replace Pa := hid ((Pa.out).box (b' := w3.heap.size) (by omega) (.bool nt) (.slice adt xt.length qt))
        replace Pb := hid ((Pb.out).box (b' := w3.heap.size) (by omega) (.bool nt) (.slice adt xt.length qt))
        replace PRG := hid ((PRG.out).box (b' := w3.heap.size) (by omega) (.bool nt) (.slice adt xt.length qt))
        replace PN5 := hid ((PN5.out).set (.bool nt) (.slice adt xt.length qt))
        replace G : Hid (Below w.heap.size w (((w12.setCell ⟨w3.heap.size, 0, none⟩ (.bool nt)).setCell ⟨w3.heap.size, 1, none⟩ (.slice adt xt.length qt)))) := bset (bset (G.out) (by omega)) (by omega)
        replace GR : Hid (Below W0.heap.size W0 (((w12.setCell ⟨w3.heap.size, 0, none⟩ (.bool nt)).setCell ⟨w3.heap.size, 1, none⟩ (.slice adt xt.length qt)))) := bset (bset (GR.out) (by omega)) (by omega)
        have sz14 : V14.heap.size = w12.heap.size := by rw [← hW]; simp
        rw [hW] at Za Zb Zg Zt Pa Pb PRG PN5 G GR
        rw [hW]
        clear hW
        refine hK.out _ _ (fun _ => ⟨Pa.out.c0, Pa.out.c1, Pb.out.c0, Pb.out.c1⟩) ?_
        clear hK
        try simp only [Act.put]
        refine wpAnyT_one (i := 10) (o := { dst := some 6, op := Op.assign (Operand.tmp 14), type := 27, pos := "bezout.go:30", after := #[{ on := 7, ground := Ground.data }, { on := 9, ground := Ground.chain }, { on := 0, ground := Ground.phase }, { on := 1, ground := Ground.phase }, { on := 2, ground := Ground.phase }, { on := 3, ground := Ground.phase }, { on := 4, ground := Ground.phase }, { on := 5, ground := Ground.phase }, { on := 6, ground := Ground.phase }, { on := 7, ground := Ground.phase }, { on := 8, ground := Ground.phase }, { on := 9, ground := Ground.phase }], guard := none }) (by kernel_rfl) rfl (fun K hK => ?_)
        go_simp
        refine hK.out _ _ (fun h => absurd h (by decide)) ?_
        clear hK
        try simp only [Act.put]
        refine wpAnyT_done (by kernel_rfl) ?_ _
        go_wp2_with fail
        go_meet
        exact ⟨_, _, _, _, _, rfl, GR.out, by omega, PN5.out.blk, PN5.out, Zt.out.mono (by omega)⟩
    · skip
      go_simp
      obtain ⟨V15, hW⟩ : ∃ V15, D1.alloc zbox = V15 := ⟨_, rfl⟩
      obtain ⟨kW, sz15⟩ := alloc1 D1 zbox
      rw [hW] at kW sz15
      replace Za := hid (Za.out.now kW)
      replace Zb := hid (Zb.out.now kW)
      replace Pa := hid (Pa.out.step kW)
      replace Pb := hid (Pb.out.step kW)
      replace PRG := hid (PRG.out.step kW)
      replace G := hid (below_step G.out kW)
      replace GR := hid (below_step GR.out kW)
      have lz16 := (show Below _ _ _ from kW).size
      have PN5 : Hid (Duo V15 (D1.heap.size) (.bool false) (.slice none 0 0)) := by unfold Hid; rw [← hW]; exact duo_at rfl
      rw [hW]
      clear hW kW
      refine hK.out _ _ (fun _ => ⟨Pa.out.c0, Pa.out.c1, Pb.out.c0, Pb.out.c1⟩) ?_
      clear hK
      try simp only [Act.put]
      refine wpAnyT_one (i := 3) (o := { dst := some 11, op := Op.call { callee := Callee.value (Operand.func 70), args := #[Operand.tmp 9, Operand.tmp 10], argTypes := #[45, 45] }, type := 45, pos := "bezout.go:30", after := #[{ on := 1, ground := Ground.data }, { on := 2, ground := Ground.data }], guard := none }) (by kernel_rfl) rfl (fun K hK => ?_)
      go_simp
      go_at_call 70
      refine (gcd_z Za.out Zb.out hk).mono ?_
      rintro e w17 ⟨r0, rfl, m0, b⟩
      obtain ⟨ng, xg, adg, qg, rfl, -, -, -, -, -⟩ := id m0
      replace Za := hid (Za.out.now b)
      replace Zb := hid (Zb.out.now b)
      replace Pa := hid (Pa.out.step b)
      replace Pb := hid (Pb.out.step b)
      replace PRG := hid (PRG.out.step b)
      replace PN5 := hid (PN5.out.step b)
      replace G := hid (below_step G.out b)
      replace GR := hid (below_step GR.out b)
      have lz18 := (show Below _ _ _ from b).size
      have Zg := hid m0
      clear b m0
      refine hK.out _ _ (fun _ => ⟨Pa.out.c0, Pa.out.c1, Pb.out.c0, Pb.out.c1⟩) ?_
      clear hK
      refine wpAnyT_one (i := 4) (o := { dst := some 12, op := Op.call { callee := Callee.value (Operand.func 84), args := #[Operand.tmp 8, Operand.tmp 11], argTypes := #[45, 45] }, type := 90, pos := "bezout.go:30", after := #[{ on := 0, ground := Ground.data }, { on := 3, ground := Ground.data }, { on := 3, ground := Ground.chain }], guard := none }) (by kernel_rfl) rfl (fun K hK => ?_)
      go_simp
      go_at_call 84
      refine (exact_none Za.out Zg.out.zi H0.out).mono ?_
      rintro e w19 ⟨r0, rfl, m0, b⟩
      obtain ⟨nt, xt, adt, qt, rfl, -, -, -, -, -⟩ := id m0
      replace Za := hid (Za.out.now b)
      replace Zb := hid (Zb.out.now b)
      replace Zg := hid (Zg.out.now b)
      replace Pa := hid (Pa.out.step b)
      replace Pb := hid (Pb.out.step b)
      replace PRG := hid (PRG.out.step b)
      replace PN5 := hid (PN5.out.step b)
      replace G := hid (below_step G.out b)
      replace GR := hid (below_step GR.out b)
      have lz20 := (show Below _ _ _ from b).size
      have Zt := hid m0
      clear b m0
      refine hK.out _ _ (fun _ => ⟨Pa.out.c0, Pa.out.c1, Pb.out.c0, Pb.out.c1⟩) ?_
      clear hK
      refine wpAnyT_take (i := 5) (oi := { dst := some 7, op := Op.move (Operand.tmp 12), type := 90, pos := "bezout.go:30", after := #[{ on := 4, ground := Ground.data }], guard := none }) (v := (.tuple #[(.agg #[.bool nt, .slice adt xt.length qt]), (.int .i64 4)])) rfl (by kernel_rfl) (fun _ _ _ h => h) (Or.inl ⟨by rfl, ?_⟩) ⟨Pa.out.c0, Pa.out.c1, Pb.out.c0, Pb.out.c1⟩ ?_
      · intro w hSw
        (try dsimp only at hSw)
        go_simp
      simp only [Act.put, List.setIfInBounds_toArray, List.set_cons_zero, List.set_cons_succ]
      refine wpAnyT_take (i := 6) (oi := { dst := some 13, op := Op.extract (Operand.tmp 7) 0, type := 45, pos := "bezout.go:30", after := #[{ on := 5, ground := Ground.data }], guard := none }) (v := (.agg #[.bool nt, .slice adt xt.length qt])) rfl (by kernel_rfl) (fun _ _ _ h => h) (Or.inl ⟨by rfl, ?_⟩) ⟨Pa.out.c0, Pa.out.c1, Pb.out.c0, Pb.out.c1⟩ ?_
      · intro w hSw
        (try dsimp only at hSw)
        go_simp
      simp only [Act.put, List.setIfInBounds_toArray, List.set_cons_zero, List.set_cons_succ]
      refine wpAnyT_take (i := 7) (oi := { dst := some 14, op := Op.extract (Operand.tmp 7) 1, type := 27, pos := "bezout.go:30", after := #[{ on := 5, ground := Ground.data }, { on := 9, ground := Ground.gcOnly Departure.lateStores }], guard := none }) (v := (.int .i64 4)) rfl (by kernel_rfl) (fun _ _ _ h => h) (Or.inl ⟨by rfl, ?_⟩) ⟨Pa.out.c0, Pa.out.c1, Pb.out.c0, Pb.out.c1⟩ ?_
      · intro w hSw
        (try dsimp only at hSw)
        go_simp
      simp only [Act.put, List.setIfInBounds_toArray, List.set_cons_zero, List.set_cons_succ]
      refine wpAnyT_one (i := 9) (o := { dst := none, op := Op.store 45 (Operand.tmp 5) (Operand.tmp 13), type := 0, pos := "bezout.go:30", after := #[{ on := 8, ground := Ground.data }, { on := 6, ground := Ground.data }, { on := 4, ground := Ground.chain }, { on := 0, ground := Ground.phase }, { on := 1, ground := Ground.phase }, { on := 2, ground := Ground.phase }, { on := 3, ground := Ground.phase }, { on := 4, ground := Ground.phase }, { on := 5, ground := Ground.phase }, { on := 6, ground := Ground.phase }, { on := 7, ground := Ground.textOnly Departure.lateStores }, { on := 8, ground := Ground.phase }], guard := none }) (by kernel_rfl) rfl (fun K hK => ?_)
      have cN50 := PN5.out.c0
      have cN51 := PN5.out.c1
      have fN50 := PN5.out.fz 0
      have fN51 := PN5.out.fz 1
      go_simp
      clear cN50 cN51 fN50 fN51
      obtain ⟨V21, hW⟩ : ∃ V21, (w19.setCell ⟨D1.heap.size, 0, none⟩ (.bool nt)).setCell ⟨D1.heap.size, 1, none⟩ (.slice adt xt.length qt) = V21 := ⟨_, rfl⟩
      replace Za := hid ((Za.out).wk ((PN5.out).wk (.bool nt) (.slice adt xt.length qt)))
      replace Zb := hid ((Zb.out).wk ((PN5.out).wk (.bool nt) (.slice adt xt.length qt)))
      replace Zg := hid ((Zg.out).box (PN5.out) (.bool nt) (.slice adt xt.length qt))
      replace Zt := hid ((Zt.out).box (PN5.out) (.bool nt) (.slice adt xt.length qt))
      replace Pa := hid ((Pa.out).box (b' := D1.heap.size) (by omega) (.bool nt) (.slice adt xt.length qt))
      replace Pb := hid ((Pb.out).box (b' := D1.heap.size) (by omega) (.bool nt) (.slice adt xt.length qt))
      replace PRG := hid ((PRG.out).box (b' := D1.heap.size) (by omega) (.bool nt) (.slice adt xt.length qt))
      replace PN5 := hid ((PN5.out).set (.bool nt) (.slice adt xt.length qt))
      replace G : Hid (Below w.heap.size w (((w19.setCell ⟨D1.heap.size, 0, none⟩ (.bool nt)).setCell ⟨D1.heap.size, 1, none⟩ (.slice adt xt.length qt)))) := bset (bset (G.out) (by omega)) (by omega)
      replace GR : Hid (Below W0.heap.size W0 (((w19.setCell ⟨D1.heap.size, 0, none⟩ (.bool nt)).setCell ⟨D1.heap.size, 1, none⟩ (.slice adt xt.length qt)))) := bset (bset (GR.out) (by omega)) (by omega)
      have sz21 : V21.heap.size = w19.heap.size := by rw [← hW]; simp
      rw [hW] at Za Zb Zg Zt Pa Pb PRG PN5 G GR
      rw [hW]
      clear hW
      refine hK.out _ _ (fun _ => ⟨Pa.out.c0, Pa.out.c1, Pb.out.c0, Pb.out.c1⟩) ?_
      clear hK
      try simp only [Act.put]
      refine wpAnyT_one (i := 10) (o := { dst := some 6, op := Op.assign (Operand.tmp 14), type := 27, pos := "bezout.go:30", after := #[{ on := 7, ground := Ground.data }, { on := 9, ground := Ground.chain }, { on := 0, ground := Ground.phase }, { on := 1, ground := Ground.phase }, { on := 2, ground := Ground.phase }, { on := 3, ground := Ground.phase }, { on := 4, ground := Ground.phase }, { on := 5, ground := Ground.phase }, { on := 6, ground := Ground.phase }, { on := 7, ground := Ground.phase }, { on := 8, ground := Ground.phase }, { on := 9, ground := Ground.phase }], guard := none }) (by kernel_rfl) rfl (fun K hK => ?_)
      go_simp
      refine hK.out _ _ (fun h => absurd h (by decide)) ?_
      clear hK
      try simp only [Act.put]
      refine wpAnyT_done (by kernel_rfl) ?_ _
      go_wp2_with fail
      go_meet
      exact ⟨_, _, _, _, _, rfl, GR.out, by omega, PN5.out.blk, PN5.out, Zt.out.mono (by omega)⟩
  case rest =>
  obtain ⟨bkt, nt, xt, adt, qt, rfl, b, get, ltt, p, m⟩ := hcut
  replace Za := hid (Za.out.now b)
  replace Zb := hid (Zb.out.now b)
  replace Pa := hid (Pa.out.step b)
  replace Pb := hid (Pb.out.step b)
  replace PRG := hid (PRG.out.step b)
  replace G := hid (below_step G.out b)
  have lz23 := (show Below _ _ _ from b).size
  have Zt := hid m
  have Pt := hid p
  clear b p m
  generalize wc = C23 at *
  have ct0 := Pt.out.c0
  have ct1 := Pt.out.c1
  have cb0 := Pb.out.c0
  have cb1 := Pb.out.c1
  go_wp2_with fail
  clear ct0 ct1 cb0 cb1
  refine (mul_z Zt.out.zi Zb.out (by omega)).mono ?_
  rintro e w24 ⟨r0, rfl, m0, b⟩
  obtain ⟨nm, xm, adm, qm, rfl, -, -, -, -, -⟩ := id m0
  replace Za := hid (Za.out.now b)
  replace Zb := hid (Zb.out.now b)
  replace Zt := hid (Zt.out.now b)
  replace Pa := hid (Pa.out.step b)
  replace Pb := hid (Pb.out.step b)
  replace PRG := hid (PRG.out.step b)
  replace Pt := hid (Pt.out.step b)
  replace G := hid (below_step G.out b)
  have lz25 := (show Below _ _ _ from b).size
  have Zm := hid m0
  clear b m0
  go_wp2_with fail
  refine (abs_z Zm.out.zi).mono ?_
  rintro e w26 ⟨r0, rfl, m0, b⟩
  obtain ⟨nr, xr, adr, qr, rfl, -, -, -, -, -⟩ := id m0
  replace Za := hid (Za.out.now b)
  replace Zb := hid (Zb.out.now b)
  replace Zt := hid (Zt.out.now b)
  replace Zm := hid (Zm.out.now b)
  replace Pa := hid (Pa.out.step b)
  replace Pb := hid (Pb.out.step b)
  replace PRG := hid (PRG.out.step b)
  replace Pt := hid (Pt.out.step b)
  replace G := hid (below_step G.out b)
  have lz27 := (show Below _ _ _ from b).size
  have Zr := hid m0
  clear b m0
  rw [EZ.out] at Zr
  have cRG0 := PRG.out.c0
  have cRG1 := PRG.out.c1
  have fRG0 := PRG.out.fz 0
  have fRG1 := PRG.out.fz 1
  go_wp2
  exact bodyPost_ret (zback Tryz.results101 (PRG.out.set _ _) _ (by rfl)) rfl ⟨_, rfl, (Zr.out.box PRG.out _ _).mono (by omega), bset (bset G.out (by omega)) (by omega)⟩

set_option maxHeartbeats 6400000 in
set_option maxRecDepth 100000 in
theorem lcm_some {w : World} {va vb : Value} {A B : Int} {k : Nat} (ha : Zi w va A k) (hb : Zi w vb B k) (hk : k ≤ 68719476736) (h0 : (Int.gcd A B : Int) ≠ 0) :
    Calls Tryz.prog 101 #[va, vb] w (GivesZ w (lcmv A B) (k + k)) := by
  have H0 := hid h0
  clear h0
  have HD := hid (gcd_div A B H0.out)
  unfold lcmv
  have za0 := ha
  obtain ⟨na, xa, ada, ca, rfl, -, -, -⟩ := ha
  have zb0 := hb
  obtain ⟨nb, xb, adb, cb, rfl, -, -, -⟩ := hb
  obtain ⟨W0, hW⟩ : ∃ W0, ((w.alloc (duo (.bool na) (.slice ada xa.length ca))).alloc (duo (.bool nb) (.slice adb xb.length cb))).alloc zbox = W0 := ⟨_, rfl⟩
  obtain ⟨b0, sz0⟩ := alloc3 w (duo (.bool na) (.slice ada xa.length ca)) (duo (.bool nb) (.slice adb xb.length cb)) zbox
  rw [hW] at b0 sz0
  have Pa : Hid (Duo W0 (w.heap.size) (.bool na) (.slice ada xa.length ca)) := by unfold Hid; rw [← hW]; exact duo_late (duo_late (duo_at (by simp)) _) _
  have Pb : Hid (Duo W0 (w.heap.size + 1) (.bool nb) (.slice adb xb.length cb)) := by unfold Hid; rw [← hW]; exact duo_late (duo_at (by simp)) _
  have PRG : Hid (Duo W0 (w.heap.size + 1 + 1) (.bool false) (.slice none 0 0)) := by unfold Hid; rw [← hW]; exact duo_at (by simp)
  have Za := hid (za0.now b0)
  clear za0
  have Zb := hid (zb0.now b0)
  clear zb0
  have G := hid b0
  clear b0
  have EW := hid hW
  clear hW
  go_enter Tryz.func101, Tryz.ntmps101
  skip
  go_wp2_with fail
  rw [EW.out]
  clear EW
  go_cut [5] from 7 (fun s1 wx => MetB W0 wx s1 (A.tdiv (Int.gcd A B : Int)) (k))
  case first =>
    have GR : Hid (Below W0.heap.size W0 W0) := Below.refl _ _
    refine wp_region_tail (fun w' => w'.cell? ⟨w.heap.size, 0, none⟩ = some (.bool na) ∧ w'.cell? ⟨w.heap.size, 1, none⟩ = some (.slice ada xa.length ca) ∧ w'.cell? ⟨w.heap.size + 1, 0, none⟩ = some (.bool nb) ∧ w'.cell? ⟨w.heap.size + 1, 1, none⟩ = some (.slice adb xb.length cb)) 10 (by kernel_rfl) ?_
    obtain ⟨D1, hD⟩ : ∃ D1, W0.drew = D1 := ⟨_, rfl⟩
    have b : Below W0.heap.size W0 D1 := by rw [← hD]; exact (Below.refl _ _).drew
    rw [hD]
    clear hD
    replace Za := hid (Za.out.now b)
    replace Zb := hid (Zb.out.now b)
    replace Pa := hid (Pa.out.step b)
    replace Pb := hid (Pb.out.step b)
    replace PRG := hid (PRG.out.step b)
    replace G := hid (below_step G.out b)
    replace GR := hid (below_step GR.out b)
    have lz2 := (show Below _ _ _ from b).size
    clear b
    refine wpAnyT_take (i := 0) (oi := { dst := some 8, op := Op.load 45 (Operand.tmp 2), type := 45, pos := "bezout.go:30", after := #[], guard := none }) (v := (.agg #[(.bool na), (.slice ada xa.length ca)])) rfl (by kernel_rfl) (fun _ _ _ h => h) (Or.inl ⟨by rfl, ?_⟩) ⟨Pa.out.c0, Pa.out.c1, Pb.out.c0, Pb.out.c1⟩ ?_
    · intro w hSw
      (try dsimp only at hSw)
      go_simp
    simp only [Act.put, List.setIfInBounds_toArray, List.set_cons_zero, List.set_cons_succ]
    refine wpAnyT_take (i := 1) (oi := { dst := some 9, op := Op.load 45 (Operand.tmp 2), type := 45, pos := "bezout.go:30", after := #[], guard := none }) (v := (.agg #[(.bool na), (.slice ada xa.length ca)])) rfl (by kernel_rfl) (fun _ _ _ h => h) (Or.inl ⟨by rfl, ?_⟩) ⟨Pa.out.c0, Pa.out.c1, Pb.out.c0, Pb.out.c1⟩ ?_
    · intro w hSw
      (try dsimp only at hSw)
      go_simp
    simp only [Act.put, List.setIfInBounds_toArray, List.set_cons_zero, List.set_cons_succ]
    refine wpAnyT_take (i := 2) (oi := { dst := some 10, op := Op.load 45 (Operand.tmp 3), type := 45, pos := "bezout.go:30", after := #[], guard := none }) (v := (.agg #[(.bool nb), (.slice adb xb.length cb)])) rfl (by kernel_rfl) (fun _ _ _ h => h) (Or.inl ⟨by rfl, ?_⟩) ⟨Pa.out.c0, Pa.out.c1, Pb.out.c0, Pb.out.c1⟩ ?_
    · intro w hSw
      (try dsimp only at hSw)
      go_simp
    simp only [Act.put, List.setIfInBounds_toArray, List.set_cons_zero, List.set_cons_succ]
    refine wpAnyT_two (i := 3) (j := 8) (oi := { dst := some 11, op := Op.call { callee := Callee.value (Operand.func 70), args := #[Operand.tmp 9, Operand.tmp 10], argTypes := #[45, 45] }, type := 45, pos := "bezout.go:30", after := #[{ on := 1, ground := Ground.data }, { on := 2, ground := Ground.data }], guard := none }) (oj := { dst := some 5, op := Op.alloc 45, type := 0, pos := "bezout.go:30", after := #[], guard := none }) (by kernel_rfl) rfl rfl (fun K hK => ?_) (fun K hK => ?_)
    · skip
      go_simp
      go_at_call 70
      refine (gcd_z Za.out Zb.out hk).mono ?_
      rintro e w3 ⟨r0, rfl, m0, b⟩
      obtain ⟨ng, xg, adg, qg, rfl, -, -, -, -, -⟩ := id m0
      replace Za := hid (Za.out.now b)
      replace Zb := hid (Zb.out.now b)
      replace Pa := hid (Pa.out.step b)
      replace Pb := hid (Pb.out.step b)
      replace PRG := hid (PRG.out.step b)
      replace G := hid (below_step G.out b)
      replace GR := hid (below_step GR.out b)
      have lz4 := (show Below _ _ _ from b).size
      have Zg := hid m0
      clear b m0
      refine hK.out _ _ (fun _ => ⟨Pa.out.c0, Pa.out.c1, Pb.out.c0, Pb.out.c1⟩) ?_
      clear hK
      refine wpAnyT_two (i := 4) (j := 8) (oi := { dst := some 12, op := Op.call { callee := Callee.value (Operand.func 84), args := #[Operand.tmp 8, Operand.tmp 11], argTypes := #[45, 45] }, type := 90, pos := "bezout.go:30", after := #[{ on := 0, ground := Ground.data }, { on := 3, ground := Ground.data }, { on := 3, ground := Ground.chain }], guard := none }) (oj := { dst := some 5, op := Op.alloc 45, type := 0, pos := "bezout.go:30", after := #[], guard := none }) (by kernel_rfl) rfl rfl (fun K hK => ?_) (fun K hK => ?_)
      · skip
        go_simp
        go_at_call 84
        refine (exact_yes Za.out Zg.out.zi H0.out (by omega) (by omega) HD.out).mono ?_
        rintro e w5 ⟨r0, rfl, m0, b⟩
        obtain ⟨nt, xt, adt, qt, rfl, -, -, -, -, -⟩ := id m0
        replace Za := hid (Za.out.now b)
        replace Zb := hid (Zb.out.now b)
        replace Zg := hid (Zg.out.now b)
        replace Pa := hid (Pa.out.step b)
        replace Pb := hid (Pb.out.step b)
        replace PRG := hid (PRG.out.step b)
        replace G := hid (below_step G.out b)
        replace GR := hid (below_step GR.out b)
        have lz6 := (show Below _ _ _ from b).size
        have Zt := hid m0
        clear b m0
        refine hK.out _ _ (fun _ => ⟨Pa.out.c0, Pa.out.c1, Pb.out.c0, Pb.out.c1⟩) ?_
        clear hK
        refine wpAnyT_take (i := 5) (oi := { dst := some 7, op := Op.move (Operand.tmp 12), type := 90, pos := "bezout.go:30", after := #[{ on := 4, ground := Ground.data }], guard := none }) (v := (.tuple #[(.agg #[.bool nt, .slice adt xt.length qt]), (.int .i64 0)])) rfl (by kernel_rfl) (fun _ _ _ h => h) (Or.inl ⟨by rfl, ?_⟩) ⟨Pa.out.c0, Pa.out.c1, Pb.out.c0, Pb.out.c1⟩ ?_
        · intro w hSw
          (try dsimp only at hSw)
          go_simp
        simp only [Act.put, List.setIfInBounds_toArray, List.set_cons_zero, List.set_cons_succ]
        refine wpAnyT_take (i := 6) (oi := { dst := some 13, op := Op.extract (Operand.tmp 7) 0, type := 45, pos := "bezout.go:30", after := #[{ on := 5, ground := Ground.data }], guard := none }) (v := (.agg #[.bool nt, .slice adt xt.length qt])) rfl (by kernel_rfl) (fun _ _ _ h => h) (Or.inl ⟨by rfl, ?_⟩) ⟨Pa.out.c0, Pa.out.c1, Pb.out.c0, Pb.out.c1⟩ ?_
        · intro w hSw
          (try dsimp only at hSw)
          go_simp
        simp only [Act.put, List.setIfInBounds_toArray, List.set_cons_zero, List.set_cons_succ]
        refine wpAnyT_take (i := 7) (oi := { dst := some 14, op := Op.extract (Operand.tmp 7) 1, type := 27, pos := "bezout.go:30", after := #[{ on := 5, ground := Ground.data }, { on := 9, ground := Ground.gcOnly Departure.lateStores }], guard := none }) (v := (.int .i64 0)) rfl (by kernel_rfl) (fun _ _ _ h => h) (Or.inl ⟨by rfl, ?_⟩) ⟨Pa.out.c0, Pa.out.c1, Pb.out.c0, Pb.out.c1⟩ ?_
        · intro w hSw
          (try dsimp only at hSw)
          go_simp
        simp only [Act.put, List.setIfInBounds_toArray, List.set_cons_zero, List.set_cons_succ]
        refine wpAnyT_one (i := 8) (o := { dst := some 5, op := Op.alloc 45, type := 0, pos := "bezout.go:30", after := #[], guard := none }) (by kernel_rfl) rfl (fun K hK => ?_)
        go_simp
        obtain ⟨V7, hW⟩ : ∃ V7, w5.alloc zbox = V7 := ⟨_, rfl⟩
        obtain ⟨kW, sz7⟩ := alloc1 w5 zbox
        rw [hW] at kW sz7
        replace Za := hid (Za.out.now kW)
        replace Zb := hid (Zb.out.now kW)
        replace Zg := hid (Zg.out.now kW)
        replace Zt := hid (Zt.out.now kW)
        replace Pa := hid (Pa.out.step kW)
        replace Pb := hid (Pb.out.step kW)
        replace PRG := hid (PRG.out.step kW)
        replace G := hid (below_step G.out kW)
        replace GR := hid (below_step GR.out kW)
        have lz8 := (show Below _ _ _ from kW).size
        have PN5 : Hid (Duo V7 (w5.heap.size) (.bool false) (.slice none 0 0)) := by unfold Hid; rw [← hW]; exact duo_at rfl
        rw [hW]
        clear hW kW
        refine hK.out _ _ (fun _ => ⟨Pa.out.c0, Pa.out.c1, Pb.out.c0, Pb.out.c1⟩) ?_
        clear hK
        try simp only [Act.put]
        refine wpAnyT_one (i := 9) (o := { dst := none, op := Op.store 45 (Operand.tmp 5) (Operand.tmp 13), type := 0, pos := "bezout.go:30", after := #[{ on := 8, ground := Ground.data }, { on := 6, ground := Ground.data }, { on := 4, ground := Ground.chain }, { on := 0, ground := Ground.phase }, { on := 1, ground := Ground.phase }, { on := 2, ground := Ground.phase }, { on := 3, ground := Ground.phase }, { on := 4, ground := Ground.phase }, { on := 5, ground := Ground.phase }, { on := 6, ground := Ground.phase }, { on := 7, ground := Ground.textOnly Departure.lateStores }, { on := 8, ground := Ground.phase }], guard := none }) (by kernel_rfl) rfl (fun K hK => ?_)
        have cN50 := PN5.out.c0
        have cN51 := PN5.out.c1
        have fN50 := PN5.out.fz 0
        have fN51 := PN5.out.fz 1
        go_simp
        clear cN50 cN51 fN50 fN51
        obtain ⟨V9, hW⟩ : ∃ V9, (V7.setCell ⟨w5.heap.size, 0, none⟩ (.bool nt)).setCell ⟨w5.heap.size, 1, none⟩ (.slice adt xt.length qt) = V9 := ⟨_, rfl⟩
        replace Za := hid ((Za.out).wk ((PN5.out).wk (.bool nt) (.slice adt xt.length qt)))
        replace Zb := hid ((Zb.out).wk ((PN5.out).wk (.bool nt) (.slice adt xt.length qt)))
        replace Zg := hid ((Zg.out).box (PN5.out) (.bool nt) (.slice adt xt.length qt))
        replace Zt := hid ((Zt.out).box (PN5.out) (.bool nt) (.slice adt xt.length qt))
        replace Pa := hid ((Pa.out).box (b' := w5.heap.size) (by omega) (.bool nt) (.slice adt xt.length qt))
        replace Pb := hid ((Pb.out).box (b' := w5.heap.size) (by omega) (.bool nt) (.slice adt xt.length qt))
        replace PRG := hid ((PRG.out).box (b' := w5.heap.size) (by omega) (.bool nt) (.slice adt xt.length qt))
        replace PN5 := hid ((PN5.out).set (.bool nt) (.slice adt xt.length qt))
        replace G : Hid (Below w.heap.size w (((V7.setCell ⟨w5.heap.size, 0, none⟩ (.bool nt)).setCell ⟨w5.heap.size, 1, none⟩ (.slice adt xt.length qt)))) := bset (bset (G.out) (by omega)) (by omega)
        replace GR : Hid (Below W0.heap.size W0 (((V7.setCell ⟨w5.heap.size, 0, none⟩ (.bool nt)).setCell ⟨w5.heap.size, 1, none⟩ (.slice adt xt.length qt)))) := bset (bset (GR.out) (by omega)) (by omega)
        have sz9 : V9.heap.size = V7.heap.size := by rw [← hW]; simp
        rw [hW] at Za Zb Zg Zt Pa Pb PRG PN5 G GR
        rw [hW]
        clear hW
        refine hK.out _ _ (fun _ => ⟨Pa.out.c0, Pa.out.c1, Pb.out.c0, Pb.out.c1⟩) ?_
        clear hK
        try simp only [Act.put]
        refine wpAnyT_one (i := 10) (o := { dst := some 6, op := Op.assign (Operand.tmp 14), type := 27, pos := "bezout.go:30", after := #[{ on := 7, ground := Ground.data }, { on := 9, ground := Ground.chain }, { on := 0, ground := Ground.phase }, { on := 1, ground := Ground.phase }, { on := 2, ground := Ground.phase }, { on := 3, ground := Ground.phase }, { on := 4, ground := Ground.phase }, { on := 5, ground := Ground.phase }, { on := 6, ground := Ground.phase }, { on := 7, ground := Ground.phase }, { on := 8, ground := Ground.phase }, { on := 9, ground := Ground.phase }], guard := none }) (by kernel_rfl) rfl (fun K hK => ?_)
        go_simp
        refine hK.out _ _ (fun h => absurd h (by decide)) ?_
        clear hK
        try simp only [Act.put]
        refine wpAnyT_done (by kernel_rfl) ?_ _
        go_wp2_with fail
        go_meet
        exact ⟨_, _, _, _, _, rfl, GR.out, by omega, PN5.out.blk, PN5.out, Zt.out.mono (by omega)⟩
      · skip
        go_simp
        obtain ⟨V10, hW⟩ : ∃ V10, w3.alloc zbox = V10 := ⟨_, rfl⟩
        obtain ⟨kW, sz10⟩ := alloc1 w3 zbox
        rw [hW] at kW sz10
        replace Za := hid (Za.out.now kW)
        replace Zb := hid (Zb.out.now kW)
        replace Zg := hid (Zg.out.now kW)
        replace Pa := hid (Pa.out.step kW)
        replace Pb := hid (Pb.out.step kW)
        replace PRG := hid (PRG.out.step kW)
        replace G := hid (below_step G.out kW)
        replace GR := hid (below_step GR.out kW)
        have lz11 := (show Below _ _ _ from kW).size
        have PN5 : Hid (Duo V10 (w3.heap.size) (.bool false) (.slice none 0 0)) := by unfold Hid; rw [← hW]; exact duo_at rfl
        rw [hW]
        clear hW kW
        refine hK.out _ _ (fun _ => ⟨Pa.out.c0, Pa.out.c1, Pb.out.c0, Pb.out.c1⟩) ?_
        clear hK
        try simp only [Act.put]
        refine wpAnyT_one (i := 4) (o := { dst := some 12, op := Op.call { callee := Callee.value (Operand.func 84), args := #[Operand.tmp 8, Operand.tmp 11], argTypes := #[45, 45] }, type := 90, pos := "bezout.go:30", after := #[{ on := 0, ground := Ground.data }, { on := 3, ground := Ground.data }, { on := 3, ground := Ground.chain }], guard := none }) (by kernel_rfl) rfl (fun K hK => ?_)
        go_simp
        go_at_call 84
        refine (exact_yes Za.out Zg.out.zi H0.out (by omega) (by omega) HD.out).mono ?_
        rintro e w12 ⟨r0, rfl, m0, b⟩
        obtain ⟨nt, xt, adt, qt, rfl, -, -, -, -, -⟩ := id m0
        replace Za := hid (Za.out.now b)
        replace Zb := hid (Zb.out.now b)
        replace Zg := hid (Zg.out.now b)
        replace Pa := hid (Pa.out.step b)
        replace Pb := hid (Pb.out.step b)
        replace PRG := hid (PRG.out.step b)
        replace PN5 := hid (PN5.out.step b)
        replace G := hid (below_step G.out b)
        replace GR := hid (below_step GR.out b)
        have lz13 := (show Below _ _ _ from b).size
        have Zt := hid m0
        clear b m0
        refine hK.out _ _ (fun _ => ⟨Pa.out.c0, Pa.out.c1, Pb.out.c0, Pb.out.c1⟩) ?_
        clear hK
        refine wpAnyT_take (i := 5) (oi := { dst := some 7, op := Op.move (Operand.tmp 12), type := 90, pos := "bezout.go:30", after := #[{ on := 4, ground := Ground.data }], guard := none }) (v := (.tuple #[(.agg #[.bool nt, .slice adt xt.length qt]), (.int .i64 0)])) rfl (by kernel_rfl) (fun _ _ _ h => h) (Or.inl ⟨by rfl, ?_⟩) ⟨Pa.out.c0, Pa.out.c1, Pb.out.c0, Pb.out.c1⟩ ?_
        · intro w hSw
          (try dsimp only at hSw)
          go_simp
        simp only [Act.put, List.setIfInBounds_toArray, List.set_cons_zero, List.set_cons_succ]
        refine wpAnyT_take (i := 6) (oi := { dst := some 13, op := Op.extract (Operand.tmp 7) 0, type := 45, pos := "bezout.go:30", after := #[{ on := 5, ground := Ground.data }], guard := none }) (v := (.agg #[.bool nt, .slice adt xt.length qt])) rfl (by kernel_rfl) (fun _ _ _ h => h) (Or.inl ⟨by rfl, ?_⟩) ⟨Pa.out.c0, Pa.out.c1, Pb.out.c0, Pb.out.c1⟩ ?_
        · intro w hSw
          (try dsimp only at hSw)
          go_simp
        simp only [Act.put, List.setIfInBounds_toArray, List.set_cons_zero, List.set_cons_succ]
        refine wpAnyT_take (i := 7) (oi := { dst := some 14, op := Op.extract (Operand.tmp 7) 1, type := 27, pos := "bezout.go:30", after := #[{ on := 5, ground := Ground.data }, { on := 9, ground := Ground.gcOnly Departure.lateStores }], guard := none }) (v := (.int .i64 0)) rfl (by kernel_rfl) (fun _ _ _ h => h) (Or.inl ⟨by rfl, ?_⟩) ⟨Pa.out.c0, Pa.out.c1, Pb.out.c0, Pb.out.c1⟩ ?_
        · intro w hSw
          (try dsimp only at hSw)
          go_simp
        simp only [Act.put, List.setIfInBounds_toArray, List.set_cons_zero, List.set_cons_succ]
        refine wpAnyT_one (i := 9) (o := { dst := none, op := Op.store 45 (Operand.tmp 5) (Operand.tmp 13), type := 0, pos := "bezout.go:30", after := #[{ on := 8, ground := Ground.data }, { on := 6, ground := Ground.data }, { on := 4, ground := Ground.chain }, { on := 0, ground := Ground.phase }, { on := 1, ground := Ground.phase }, { on := 2, ground := Ground.phase }, { on := 3, ground := Ground.phase }, { on := 4, ground := Ground.phase }, { on := 5, ground := Ground.phase }, { on := 6, ground := Ground.phase }, { on := 7, ground := Ground.textOnly Departure.lateStores }, { on := 8, ground := Ground.phase }], guard := none }) (by kernel_rfl) rfl (fun K hK => ?_)
        have cN50 := PN5.out.c0
        have cN51 := PN5.out.c1
        have fN50 := PN5.out.fz 0
        have fN51 := PN5.out.fz 1
        go_simp
        clear cN50 cN51 fN50 fN51
        obtain ⟨V14, hW⟩ : ∃ V14, (w12.setCell ⟨w3.heap.size, 0, none⟩ (.bool nt)).setCell ⟨w3.heap.size, 1, none⟩ (.slice adt xt.length qt) = V14 := ⟨_, rfl⟩
        replace Za := hid ((Za.out).wk ((PN5.out).wk (.bool nt) (.slice adt xt.length qt)))
        replace Zb := hid ((Zb.out).wk ((PN5.out).wk (.bool nt) (.slice adt xt.length qt)))
        replace Zg := hid ((Zg.out).box (PN5.out) (.bool nt) (.slice adt xt.length qt))
        replace Zt := hid ((Zt.out).box (PN5.out) (.bool nt) (.slice adt xt.length qt))
        replace Pa := hid ((Pa.out).box (b' := w3.heap.size) (by omega) (.bool nt) (.slice adt xt.length qt))
        replace Pb := hid ((Pb.out).box (b' := w3.heap.size) (by omega) (.bool nt) (.slice adt xt.length qt))
        replace PRG := hid ((PRG.out).box (b' := w3.heap.size) (by omega) (.bool nt) (.slice adt xt.length qt))
        replace PN5 := hid ((PN5.out).set (.bool nt) (.slice adt xt.length qt))
        replace G : Hid (Below w.heap.size w (((w12.setCell ⟨w3.heap.size, 0, none⟩ (.bool nt)).setCell ⟨w3.heap.size, 1, none⟩ (.slice adt xt.length qt)))) := bset (bset (G.out) (by omega)) (by omega)
        replace GR : Hid (Below W0.heap.size W0 (((w12.setCell ⟨w3.heap.size, 0, none⟩ (.bool nt)).setCell ⟨w3.heap.size, 1, none⟩ (.slice adt xt.length qt)))) := bset (bset (GR.out) (by omega)) (by omega)
        have sz14 : V14.heap.size = w12.heap.size := by rw [← hW]; simp
        rw [hW] at Za Zb Zg Zt Pa Pb PRG PN5 G GR
        rw [hW]
        clear hW
        refine hK.out _ _ (fun _ => ⟨Pa.out.c0, Pa.out.c1, Pb.out.c0, Pb.out.c1⟩) ?_
        clear hK
        try simp only [Act.put]
        refine wpAnyT_one (i := 10) (o := { dst := some 6, op := Op.assign (Operand.tmp 14), type := 27, pos := "bezout.go:30", after := #[{ on := 7, ground := Ground.data }, { on := 9, ground := Ground.chain }, { on := 0, ground := Ground.phase }, { on := 1, ground := Ground.phase }, { on := 2, ground := Ground.phase }, { on := 3, ground := Ground.phase }, { on := 4, ground := Ground.phase }, { on := 5, ground := Ground.phase }, { on := 6, ground := Ground.phase }, { on := 7, ground := Ground.phase }, { on := 8, ground := Ground.phase }, { on := 9, ground := Ground.phase }], guard := none }) (by kernel_rfl) rfl (fun K hK => ?_)
        go_simp
        refine hK.out _ _ (fun h => absurd h (by decide)) ?_
        clear hK
        try simp only [Act.put]
        refine wpAnyT_done (by kernel_rfl) ?_ _
        go_wp2_with fail
        go_meet
        exact ⟨_, _, _, _, _, rfl, GR.out, by omega, PN5.out.blk, PN5.out, Zt.out.mono (by omega)⟩
    · skip
      go_simp
      obtain ⟨V15, hW⟩ : ∃ V15, D1.alloc zbox = V15 := ⟨_, rfl⟩
      obtain ⟨kW, sz15⟩ := alloc1 D1 zbox
      rw [hW] at kW sz15
      replace Za := hid (Za.out.now kW)
      replace Zb := hid (Zb.out.now kW)
      replace Pa := hid (Pa.out.step kW)
      replace Pb := hid (Pb.out.step kW)
      replace PRG := hid (PRG.out.step kW)
      replace G := hid (below_step G.out kW)
      replace GR := hid (below_step GR.out kW)
      have lz16 := (show Below _ _ _ from kW).size
      have PN5 : Hid (Duo V15 (D1.heap.size) (.bool false) (.slice none 0 0)) := by unfold Hid; rw [← hW]; exact duo_at rfl
      rw [hW]
      clear hW kW
      refine hK.out _ _ (fun _ => ⟨Pa.out.c0, Pa.out.c1, Pb.out.c0, Pb.out.c1⟩) ?_
      clear hK
      try simp only [Act.put]
      refine wpAnyT_one (i := 3) (o := { dst := some 11, op := Op.call { callee := Callee.value (Operand.func 70), args := #[Operand.tmp 9, Operand.tmp 10], argTypes := #[45, 45] }, type := 45, pos := "bezout.go:30", after := #[{ on := 1, ground := Ground.data }, { on := 2, ground := Ground.data }], guard := none }) (by kernel_rfl) rfl (fun K hK => ?_)
      go_simp
      go_at_call 70
      refine (gcd_z Za.out Zb.out hk).mono ?_
      rintro e w17 ⟨r0, rfl, m0, b⟩
      obtain ⟨ng, xg, adg, qg, rfl, -, -, -, -, -⟩ := id m0
      replace Za := hid (Za.out.now b)
      replace Zb := hid (Zb.out.now b)
      replace Pa := hid (Pa.out.step b)
      replace Pb := hid (Pb.out.step b)
      replace PRG := hid (PRG.out.step b)
      replace PN5 := hid (PN5.out.step b)
      replace G := hid (below_step G.out b)
      replace GR := hid (below_step GR.out b)
      have lz18 := (show Below _ _ _ from b).size
      have Zg := hid m0
      clear b m0
      refine hK.out _ _ (fun _ => ⟨Pa.out.c0, Pa.out.c1, Pb.out.c0, Pb.out.c1⟩) ?_
      clear hK
      refine wpAnyT_one (i := 4) (o := { dst := some 12, op := Op.call { callee := Callee.value (Operand.func 84), args := #[Operand.tmp 8, Operand.tmp 11], argTypes := #[45, 45] }, type := 90, pos := "bezout.go:30", after := #[{ on := 0, ground := Ground.data }, { on := 3, ground := Ground.data }, { on := 3, ground := Ground.chain }], guard := none }) (by kernel_rfl) rfl (fun K hK => ?_)
      go_simp
      go_at_call 84
      refine (exact_yes Za.out Zg.out.zi H0.out (by omega) (by omega) HD.out).mono ?_
      rintro e w19 ⟨r0, rfl, m0, b⟩
      obtain ⟨nt, xt, adt, qt, rfl, -, -, -, -, -⟩ := id m0
      replace Za := hid (Za.out.now b)
      replace Zb := hid (Zb.out.now b)
      replace Zg := hid (Zg.out.now b)
      replace Pa := hid (Pa.out.step b)
      replace Pb := hid (Pb.out.step b)
      replace PRG := hid (PRG.out.step b)
      replace PN5 := hid (PN5.out.step b)
      replace G := hid (below_step G.out b)
      replace GR := hid (below_step GR.out b)
      have lz20 := (show Below _ _ _ from b).size
      have Zt := hid m0
      clear b m0
      refine hK.out _ _ (fun _ => ⟨Pa.out.c0, Pa.out.c1, Pb.out.c0, Pb.out.c1⟩) ?_
      clear hK
      refine wpAnyT_take (i := 5) (oi := { dst := some 7, op := Op.move (Operand.tmp 12), type := 90, pos := "bezout.go:30", after := #[{ on := 4, ground := Ground.data }], guard := none }) (v := (.tuple #[(.agg #[.bool nt, .slice adt xt.length qt]), (.int .i64 0)])) rfl (by kernel_rfl) (fun _ _ _ h => h) (Or.inl ⟨by rfl, ?_⟩) ⟨Pa.out.c0, Pa.out.c1, Pb.out.c0, Pb.out.c1⟩ ?_
      · intro w hSw
        (try dsimp only at hSw)
        go_simp
      simp only [Act.put, List.setIfInBounds_toArray, List.set_cons_zero, List.set_cons_succ]
      refine wpAnyT_take (i := 6) (oi := { dst := some 13, op := Op.extract (Operand.tmp 7) 0, type := 45, pos := "bezout.go:30", after := #[{ on := 5, ground := Ground.data }], guard := none }) (v := (.agg #[.bool nt, .slice adt xt.length qt])) rfl (by kernel_rfl) (fun _ _ _ h => h) (Or.inl ⟨by rfl, ?_⟩) ⟨Pa.out.c0, Pa.out.c1, Pb.out.c0, Pb.out.c1⟩ ?_
      · intro w hSw
        (try dsimp only at hSw)
        go_simp
      simp only [Act.put, List.setIfInBounds_toArray, List.set_cons_zero, List.set_cons_succ]
      refine wpAnyT_take (i := 7) (oi := { dst := some 14, op := Op.extract (Operand.tmp 7) 1, type := 27, pos := "bezout.go:30", after := #[{ on := 5, ground := Ground.data }, { on := 9, ground := Ground.gcOnly Departure.lateStores }], guard := none }) (v := (.int .i64 0)) rfl (by kernel_rfl) (fun _ _ _ h => h) (Or.inl ⟨by rfl, ?_⟩) ⟨Pa.out.c0, Pa.out.c1, Pb.out.c0, Pb.out.c1⟩ ?_
      · intro w hSw
        (try dsimp only at hSw)
        go_simp
      simp only [Act.put, List.setIfInBounds_toArray, List.set_cons_zero, List.set_cons_succ]
      refine wpAnyT_one (i := 9) (o := { dst := none, op := Op.store 45 (Operand.tmp 5) (Operand.tmp 13), type := 0, pos := "bezout.go:30", after := #[{ on := 8, ground := Ground.data }, { on := 6, ground := Ground.data }, { on := 4, ground := Ground.chain }, { on := 0, ground := Ground.phase }, { on := 1, ground := Ground.phase }, { on := 2, ground := Ground.phase }, { on := 3, ground := Ground.phase }, { on := 4, ground := Ground.phase }, { on := 5, ground := Ground.phase }, { on := 6, ground := Ground.phase }, { on := 7, ground := Ground.textOnly Departure.lateStores }, { on := 8, ground := Ground.phase }], guard := none }) (by kernel_rfl) rfl (fun K hK => ?_)
      have cN50 := PN5.out.c0
      have cN51 := PN5.out.c1
      have fN50 := PN5.out.fz 0
      have fN51 := PN5.out.fz 1
      go_simp
      clear cN50 cN51 fN50 fN51
      obtain ⟨V21, hW⟩ : ∃ V21, (w19.setCell ⟨D1.heap.size, 0, none⟩ (.bool nt)).setCell ⟨D1.heap.size, 1, none⟩ (.slice adt xt.length qt) = V21 := ⟨_, rfl⟩
      replace Za := hid ((Za.out).wk ((PN5.out).wk (.bool nt) (.slice adt xt.length qt)))
      replace Zb := hid ((Zb.out).wk ((PN5.out).wk (.bool nt) (.slice adt xt.length qt)))
      replace Zg := hid ((Zg.out).box (PN5.out) (.bool nt) (.slice adt xt.length qt))
      replace Zt := hid ((Zt.out).box (PN5.out) (.bool nt) (.slice adt xt.length qt))
      replace Pa := hid ((Pa.out).box (b' := D1.heap.size) (by omega) (.bool nt) (.slice adt xt.length qt))
      replace Pb := hid ((Pb.out).box (b' := D1.heap.size) (by omega) (.bool nt) (.slice adt xt.length qt))
      replace PRG := hid ((PRG.out).box (b' := D1.heap.size) (by omega) (.bool nt) (.slice adt xt.length qt))
      replace PN5 := hid ((PN5.out).set (.bool nt) (.slice adt xt.length qt))
      replace G : Hid (Below w.heap.size w (((w19.setCell ⟨D1.heap.size, 0, none⟩ (.bool nt)).setCell ⟨D1.heap.size, 1, none⟩ (.slice adt xt.length qt)))) := bset (bset (G.out) (by omega)) (by omega)
      replace GR : Hid (Below W0.heap.size W0 (((w19.setCell ⟨D1.heap.size, 0, none⟩ (.bool nt)).setCell ⟨D1.heap.size, 1, none⟩ (.slice adt xt.length qt)))) := bset (bset (GR.out) (by omega)) (by omega)
      have sz21 : V21.heap.size = w19.heap.size := by rw [← hW]; simp
      rw [hW] at Za Zb Zg Zt Pa Pb PRG PN5 G GR
      rw [hW]
      clear hW
      refine hK.out _ _ (fun _ => ⟨Pa.out.c0, Pa.out.c1, Pb.out.c0, Pb.out.c1⟩) ?_
      clear hK
      try simp only [Act.put]
      refine wpAnyT_one (i := 10) (o := { dst := some 6, op := Op.assign (Operand.tmp 14), type := 27, pos := "bezout.go:30", after := #[{ on := 7, ground := Ground.data }, { on := 9, ground := Ground.chain }, { on := 0, ground := Ground.phase }, { on := 1, ground := Ground.phase }, { on := 2, ground := Ground.phase }, { on := 3, ground := Ground.phase }, { on := 4, ground := Ground.phase }, { on := 5, ground := Ground.phase }, { on := 6, ground := Ground.phase }, { on := 7, ground := Ground.phase }, { on := 8, ground := Ground.phase }, { on := 9, ground := Ground.phase }], guard := none }) (by kernel_rfl) rfl (fun K hK => ?_)
      go_simp
      refine hK.out _ _ (fun h => absurd h (by decide)) ?_
      clear hK
      try simp only [Act.put]
      refine wpAnyT_done (by kernel_rfl) ?_ _
      go_wp2_with fail
      go_meet
      exact ⟨_, _, _, _, _, rfl, GR.out, by omega, PN5.out.blk, PN5.out, Zt.out.mono (by omega)⟩
  case rest =>
  obtain ⟨bkt, nt, xt, adt, qt, rfl, b, get, ltt, p, m⟩ := hcut
  replace Za := hid (Za.out.now b)
  replace Zb := hid (Zb.out.now b)
  replace Pa := hid (Pa.out.step b)
  replace Pb := hid (Pb.out.step b)
  replace PRG := hid (PRG.out.step b)
  replace G := hid (below_step G.out b)
  have lz23 := (show Below _ _ _ from b).size
  have Zt := hid m
  have Pt := hid p
  clear b p m
  generalize wc = C23 at *
  have ct0 := Pt.out.c0
  have ct1 := Pt.out.c1
  have cb0 := Pb.out.c0
  have cb1 := Pb.out.c1
  go_wp2_with fail
  clear ct0 ct1 cb0 cb1
  refine (mul_z Zt.out.zi Zb.out (by omega)).mono ?_
  rintro e w24 ⟨r0, rfl, m0, b⟩
  obtain ⟨nm, xm, adm, qm, rfl, -, -, -, -, -⟩ := id m0
  replace Za := hid (Za.out.now b)
  replace Zb := hid (Zb.out.now b)
  replace Zt := hid (Zt.out.now b)
  replace Pa := hid (Pa.out.step b)
  replace Pb := hid (Pb.out.step b)
  replace PRG := hid (PRG.out.step b)
  replace Pt := hid (Pt.out.step b)
  replace G := hid (below_step G.out b)
  have lz25 := (show Below _ _ _ from b).size
  have Zm := hid m0
  clear b m0
  go_wp2_with fail
  refine (abs_z Zm.out.zi).mono ?_
  rintro e w26 ⟨r0, rfl, m0, b⟩
  obtain ⟨nr, xr, adr, qr, rfl, -, -, -, -, -⟩ := id m0
  replace Za := hid (Za.out.now b)
  replace Zb := hid (Zb.out.now b)
  replace Zt := hid (Zt.out.now b)
  replace Zm := hid (Zm.out.now b)
  replace Pa := hid (Pa.out.step b)
  replace Pb := hid (Pb.out.step b)
  replace PRG := hid (PRG.out.step b)
  replace Pt := hid (Pt.out.step b)
  replace G := hid (below_step G.out b)
  have lz27 := (show Below _ _ _ from b).size
  have Zr := hid m0
  clear b m0
  have cRG0 := PRG.out.c0
  have cRG1 := PRG.out.c1
  have fRG0 := PRG.out.fz 0
  have fRG1 := PRG.out.fz 1
  go_wp2
  exact bodyPost_ret (zback Tryz.results101 (PRG.out.set _ _) _ (by rfl)) rfl ⟨_, rfl, (Zr.out.box PRG.out _ _).mono (by omega), bset (bset G.out (by omega)) (by omega)⟩
theorem lcm_z {w : World} {va vb : Value} {A B : Int} {k : Nat} (ha : Zi w va A k) (hb : Zi w vb B k) (hk : k ≤ 68719476736) :
    Calls Tryz.prog 101 #[va, vb] w (GivesZ w (lcmv A B) (k + k)) := by
  by_cases h : (Int.gcd A B : Int) = 0
  · exact lcm_none ha hb hk h
  · exact lcm_some ha hb hk h
end Go.Proofs.YtcceoildbnoliaaGreat
