/-
  Vd16: the law's valued.
-/
import Derived.Test.YtnpcfohimlfbdaaQRi16
import Derived.Test.YtnpcfohimlfbdaaQDd16
import Derived.Test.YtnpcfohimlfbdaaQCat9
namespace Go.Proofs.Ytnpcfohimlfbdaa
open Go.RowKit
set_option linter.unusedVariables false
set_option linter.unusedSimpArgs false

theorem vb16 {k l kx : Nat} (hk : k ≤ 3145731) (hl : l ≤ 1048576) (hx : kx ≤ 1048576) : k + (2 * l + 1) * (kx + 1) ≤ 2300000000000 := by
  have h1 : (2 * l + 1) * (kx + 1) ≤ 2097153 * 1048577 := Nat.mul_le_mul (by omega) (by omega)
  omega
theorem valueV {w : World} {a : Option Addr} {l c k kx : Nat} {ps : List Int} {xv : Value} {x : Int} (hp : Zl w (.slice a l c) ps k) (hx : Zi w xv x kx) (hk : k ≤ 3145731) (hkx : kx ≤ 1048576) :
    Calls Try.prog 23 #[.slice a l c, xv] w (GivesZ w (vlQ ps x) 2300000000001) :=
  value_any hp hx (vb16 hk (by
    obtain ⟨_, _, e1, -, q, -⟩ := hp.form9
    simp only [Value.slice.injEq] at e1
    rw [e1.2.1]
    exact q) hkx) (by decide)
theorem ownP_one {V : World} {b B : Nat} {x y : Value} (d : Duo V b x y) (hB : B ≤ b) : OwnP B V (.slice (some ⟨b, 0, none⟩) 1 1) [(x, y)] :=
  ⟨rfl, .inr ⟨b, 1, #[x, y], rfl, hB, d, Nat.le_refl _, by unfold maxLen; omega, rfl, rfl⟩⟩
theorem zl_two16 {V : World} {b k : Nat} {n0 n1 : Bool} {a0 a1 : Option Addr} {l0 l1 c0 c1 : Nat} {z0 z1 : Int} (d : Cel V b 25 [.bool n0, .slice a0 l0 c0, .bool n1, .slice a1 l1 c1]) (h0 : Zi V (.agg #[.bool n0, .slice a0 l0 c0]) z0 k) (h1 : Zi V (.agg #[.bool n1, .slice a1 l1 c1]) z1 k) :
    Zl V (.slice (some ⟨b, 0, none⟩) 2 2) [z0, z1] k := by
  refine ⟨_, 2, rfl, Nat.le_refl _, by simp, .inr ⟨b, 0, rfl, d.blk, fun j hj => ?_⟩⟩
  have : j = 0 ∨ j = 1 := by simp at hj; omega
  rcases this with rfl | rfl
  · exact ⟨_, _, d.at (i := 0) rfl, d.at (i := 1) rfl, h0⟩
  · exact ⟨_, _, d.at (i := 2) rfl, d.at (i := 3) rfl, h1⟩
theorem tr_lin (x : Int) : tr [-x, 1] = [-x, 1] := tr_of (trm_of fun m hm => by
  obtain rfl : m = 1 := by simp at hm; omega
  simp [cf])
theorem mon_lin (x : Int) : monB [-x, 1] = true := by simp [monB, cf]
set_option maxHeartbeats 25600000 in
set_option maxRecDepth 100000 in
theorem valued16 {w : World} {a0 a1 : Option Addr} {l0 l1 c0 c1 k : Nat} {ps qs : List Int} {pps : List (Value × Value)} {xv : Value} {x : Int} (hpr : Prs 0 w (.slice a0 l0 c0) pps) (hzi : Zis w pps ps k) (hq : Zl w (.slice a1 l1 c1) qs k) (hx : Zi w xv x k) (hk : k ≤ 1048576) (hl : ps.length + qs.length ≤ 1048571) :
    Calls Try.prog 7 #[.slice a0 l0 c0, .slice a1 l1 c1, xv] w (SaysB w true) := by
  have hp := zl_of hpr hzi
  have HL0 : Hid (ps.length = l0) := by
    obtain ⟨_, _, e1, -⟩ := hp.form9
    simp only [Value.slice.injEq] at e1
    exact e1.2.1.symm
  obtain ⟨nx, xx, adx, qx, rfl⟩ := hx.parts16
  obtain ⟨lx, hlx⟩ : ∃ lx, xx.length = lx := ⟨_, rfl⟩
  rw [hlx] at hx ⊢
  have P := hid hp
  have PR := hid hpr
  have ZI := hid hzi
  have Q := hid hq
  have X := hid hx
  have HK := hid hk
  have HLS := hid hl
  have HKD : Hid (k + l0 * (k + 2) ≤ 1200000000000) := dv_bound hk (by have := HL0.out; omega)
  have G : Hid (Below w.heap.size w w) := Below.refl _ _
  have HII := hid hzi.isI
  have HPL : Hid (pps.length = ps.length) := hzi.1
  clear hp hpr hzi hq hx hk hl hlx
  go_enter Try.func7, Try.ntmps7
  obtain ⟨V1, hV⟩ : ∃ V1, w.alloc (duo (.bool nx) (.slice adx lx qx)) = V1 := ⟨_, rfl⟩
  obtain ⟨b, sz1⟩ := alo1 w (duo (.bool nx) (.slice adx lx qx))
  rw [hV] at b sz1
  replace P := hid (P.out.now b)
  replace PR := hid (PR.out.now b)
  replace ZI := hid (ZI.out.now b)
  replace Q := hid (Q.out.now b)
  replace X := hid (X.out.now b)
  replace G := hid (below_step G.out b)
  clear b sz1
  have DX : Hid (Duo V1 w.heap.size (.bool nx) (.slice adx lx qx)) := by unfold Hid; rw [← hV]; exact Duo.new w _ _
  obtain ⟨bX, hbX⟩ : ∃ bX, w.heap.size = bX := ⟨_, rfl⟩
  have EBX := hid hbX
  rw [hbX] at DX
  have d0 := DX.out.c0
  have d1 := DX.out.c1
  rw [← hV] at d0 d1
  have EV : Hid (w.alloc (duo (.bool nx) (.slice adx lx qx)) = V1) := hV
  clear hV
  go_wp2_with fail
  rw [EV.out]
  clear EV
  clear d0 d1
  clear hbX
  refine (valueV (Zlc.nil _ k).zl X.out (by have := HK.out; omega) HK.out).mono ?_
  rintro e w2 ⟨r0, rfl, m0, b⟩
  replace P := hid (P.out.now b)
  replace PR := hid (PR.out.now b)
  replace ZI := hid (ZI.out.now b)
  replace Q := hid (Q.out.now b)
  replace X := hid (X.out.now b)
  replace DX := hid (DX.out.step b)
  replace G := hid (below_step G.out b)
  have M0 := hid m0.zi
  clear m0
  clear b
  go_wp2_with fail
  refine (sign0 M0.out (vl_nil _)).mono ?_
  rintro e w3 ⟨rfl, b⟩
  replace P := hid (P.out.now b)
  replace PR := hid (PR.out.now b)
  replace ZI := hid (ZI.out.now b)
  replace Q := hid (Q.out.now b)
  replace X := hid (X.out.now b)
  replace DX := hid (DX.out.step b)
  replace G := hid (below_step G.out b)
  clear b
  clear M0
  have d0 := DX.out.c0
  have d1 := DX.out.c1
  go_wp2_with fail
  clear d0 d1
  refine (valueV P.out X.out (by have := HK.out; omega) HK.out).mono ?_
  rintro e w4 ⟨r0, rfl, m0, b⟩
  replace P := hid (P.out.now b)
  replace PR := hid (PR.out.now b)
  replace ZI := hid (ZI.out.now b)
  replace Q := hid (Q.out.now b)
  replace X := hid (X.out.now b)
  replace DX := hid (DX.out.step b)
  replace G := hid (below_step G.out b)
  have U := hid m0.zi
  obtain ⟨nU, xU, aU, cU, rfl⟩ := m0.parts
  obtain ⟨lU, hlu⟩ : ∃ lU, xU.length = lU := ⟨_, rfl⟩
  rw [hlu] at U ⊢
  clear m0 hlu
  clear b
  obtain ⟨V5, hV⟩ : ∃ V5, w4.alloc (duo (.bool nU) (.slice aU lU cU)) = V5 := ⟨_, rfl⟩
  obtain ⟨b, sz5⟩ := alo1 w4 (duo (.bool nU) (.slice aU lU cU))
  rw [hV] at b sz5
  replace P := hid (P.out.now b)
  replace PR := hid (PR.out.now b)
  replace ZI := hid (ZI.out.now b)
  replace Q := hid (Q.out.now b)
  replace X := hid (X.out.now b)
  replace DX := hid (DX.out.step b)
  replace U := hid (U.out.now b)
  replace G := hid (below_step G.out b)
  clear b sz5
  have DU : Hid (Duo V5 w4.heap.size (.bool nU) (.slice aU lU cU)) := by unfold Hid; rw [← hV]; exact Duo.new w4 _ _
  obtain ⟨bU, hbU⟩ : ∃ bU, w4.heap.size = bU := ⟨_, rfl⟩
  have EBU := hid hbU
  rw [hbU] at DU
  have d0 := DX.out.c0
  have d1 := DX.out.c1
  rw [← hV] at d0 d1
  have EV : Hid (w4.alloc (duo (.bool nU) (.slice aU lU cU)) = V5) := hV
  clear hV
  go_wp2_with fail
  rw [EV.out]
  clear EV
  clear d0 d1
  refine (valueV Q.out X.out (by have := HK.out; omega) HK.out).mono ?_
  rintro e w6 ⟨r0, rfl, m0, b⟩
  replace P := hid (P.out.now b)
  replace PR := hid (PR.out.now b)
  replace ZI := hid (ZI.out.now b)
  replace Q := hid (Q.out.now b)
  replace X := hid (X.out.now b)
  replace DX := hid (DX.out.step b)
  replace U := hid (U.out.now b)
  replace DU := hid (DU.out.step b)
  replace G := hid (below_step G.out b)
  have V := hid m0.zi
  obtain ⟨nV, xV, aV, cV, rfl⟩ := m0.parts
  obtain ⟨lV, hlu⟩ : ∃ lV, xV.length = lV := ⟨_, rfl⟩
  rw [hlu] at V ⊢
  clear m0 hlu
  clear b
  obtain ⟨V7, hV⟩ : ∃ V7, w6.alloc (duo (.bool nV) (.slice aV lV cV)) = V7 := ⟨_, rfl⟩
  obtain ⟨b, sz7⟩ := alo1 w6 (duo (.bool nV) (.slice aV lV cV))
  rw [hV] at b sz7
  replace P := hid (P.out.now b)
  replace PR := hid (PR.out.now b)
  replace ZI := hid (ZI.out.now b)
  replace Q := hid (Q.out.now b)
  replace X := hid (X.out.now b)
  replace DX := hid (DX.out.step b)
  replace U := hid (U.out.now b)
  replace DU := hid (DU.out.step b)
  replace V := hid (V.out.now b)
  replace G := hid (below_step G.out b)
  clear b sz7
  have DV : Hid (Duo V7 w6.heap.size (.bool nV) (.slice aV lV cV)) := by unfold Hid; rw [← hV]; exact Duo.new w6 _ _
  obtain ⟨bV, hbV⟩ : ∃ bV, w6.heap.size = bV := ⟨_, rfl⟩
  have EBV := hid hbV
  rw [hbV] at DV
  have EV : Hid (w6.alloc (duo (.bool nV) (.slice aV lV cV)) = V7) := hV
  clear hV
  go_upto_region 5 with fail
  rw [EV.out]
  clear EV
  have d0 := DX.out.c0
  have d1 := DX.out.c1
  have e0 := DU.out.c0
  have e1 := DU.out.c1
  have f0 := DV.out.c0
  have f1 := DV.out.c1
  have KB : Hid (∀ w', Below V7.heap.size V7 w' → w'.cell? ⟨bX, 0, none⟩ = some (.bool nx) ∧ w'.cell? ⟨bX, 1, none⟩ = some (.slice adx lx qx) ∧ w'.cell? ⟨bU, 0, none⟩ = some (.bool nU) ∧ w'.cell? ⟨bU, 1, none⟩ = some (.slice aU lU cU) ∧ w'.cell? ⟨bV, 0, none⟩ = some (.bool nV) ∧ w'.cell? ⟨bV, 1, none⟩ = some (.slice aV lV cV)) := fun w' h => ⟨cnow h d0, cnow h d1, cnow h e0, cnow h e1, cnow h f0, cnow h f1⟩
  refine wp_region_tail (fun w' => w'.cell? ⟨bX, 0, none⟩ = some (.bool nx) ∧ w'.cell? ⟨bX, 1, none⟩ = some (.slice adx lx qx) ∧ w'.cell? ⟨bU, 0, none⟩ = some (.bool nU) ∧ w'.cell? ⟨bU, 1, none⟩ = some (.slice aU lU cU) ∧ w'.cell? ⟨bV, 0, none⟩ = some (.bool nV) ∧ w'.cell? ⟨bV, 1, none⟩ = some (.slice aV lV cV)) 21 (by kernel_rfl) ?_
  obtain ⟨D261, hD⟩ : ∃ D261, V7.drew = D261 := ⟨_, rfl⟩
  have GB : Hid (Below V7.heap.size V7 D261) := by unfold Hid; rw [← hD]; exact (Below.refl _ _).drew
  rw [hD]
  clear hD
  refine wpAnyT_list [(0, (.slice a0 l0 c0)), (1, (.slice a1 l1 c1)), (3, (.agg #[.bool nx, .slice adx lx qx])), (5, (.agg #[.bool nU, .slice aU lU cU])), (6, (.agg #[.bool nV, .slice aV lV cV]))] 5 ?_ (KB.out _ GB.out) ?_
  · simp only [TakesV, gA9, g09, g19, Act.put, sI9, s09, s19]
    (repeat' (first | exact trivial | refine And.intro (Or.inl ⟨by rfl, ?_⟩) ?_)) <;> (intro w hSw; (try dsimp only at hSw); go_simp)
  simp only [actV, gA9, g09, g19, Act.put, sI9, s09, s19]
  refine wpAnyT_one (i := 2) (o := { dst := some 25, op := Op.call { callee := Callee.value (Operand.func 14), args := #[Operand.tmp 23, Operand.tmp 24], argTypes := #[22, 22] }, type := 22, pos := "outright.go:84", after := #[{ on := 0, ground := Ground.data }, { on := 1, ground := Ground.data }], guard := none }) (by kernel_rfl) rfl (fun K hK => ?_)
  go_simp
  go_at_call 14
  refine (addS (P.out.now GB.out) (Q.out.now GB.out) (Nat.le_refl _) (Nat.le_refl _) (by have := HK.out; omega)).mono ?_
  rintro e w262 ⟨aS, lS, cS, rfl, ES, z0, b⟩
  have lz262 := (show Below _ _ _ from b).size
  replace GB := hid (below_step GB.out b)
  have S := hid z0
  clear z0
  clear b
  refine hK.out _ _ (fun _ => KB.out _ GB.out) ?_
  clear hK
  refine wpAnyT_one (i := 4) (o := { dst := some 27, op := Op.call { callee := Callee.value (Operand.func 23), args := #[Operand.tmp 25, Operand.tmp 26], argTypes := #[22, 25] }, type := 25, pos := "outright.go:84", after := #[{ on := 2, ground := Ground.data }, { on := 3, ground := Ground.data }, { on := 2, ground := Ground.chain }], guard := none }) (by kernel_rfl) rfl (fun K hK => ?_)
  go_simp
  go_at_call 23
  refine (valueV S.out.zl (X.out.now GB.out) (by have := HK.out; omega) HK.out).mono ?_
  rintro e w263 ⟨rS, rfl, m0, b⟩
  have lz263 := (show Below _ _ _ from b).size
  replace GB := hid (below_step GB.out b)
  have VS := hid m0.zi
  clear m0
  clear b
  refine hK.out _ _ (fun _ => KB.out _ GB.out) ?_
  clear hK
  refine wpAnyT_one (i := 7) (o := { dst := some 30, op := Op.call { callee := Callee.value (Operand.func 24), args := #[Operand.tmp 28, Operand.tmp 29], argTypes := #[25, 25] }, type := 25, pos := "outright.go:84", after := #[{ on := 5, ground := Ground.data }, { on := 6, ground := Ground.data }, { on := 4, ground := Ground.chain }], guard := none }) (by kernel_rfl) rfl (fun K hK => ?_)
  go_simp
  go_at_call 24
  refine (add_z (U.out.now GB.out) (V.out.now GB.out) (by decide) (by decide)).mono ?_
  rintro e w264 ⟨rT, rfl, m0, b⟩
  have lz264 := (show Below _ _ _ from b).size
  replace GB := hid (below_step GB.out b)
  replace VS := hid (VS.out.now b)
  have VT := hid m0.zi
  clear m0
  clear b
  refine hK.out _ _ (fun _ => KB.out _ GB.out) ?_
  clear hK
  refine wpAnyT_one (i := 8) (o := { dst := some 31, op := Op.call { callee := Callee.value (Operand.func 16), args := #[Operand.tmp 27, Operand.tmp 30], argTypes := #[25, 25] }, type := 3, pos := "outright.go:84", after := #[{ on := 4, ground := Ground.data }, { on := 7, ground := Ground.data }, { on := 7, ground := Ground.chain }], guard := none }) (by kernel_rfl) rfl (fun K hK => ?_)
  go_simp
  go_at_call 16
  refine (cmpSame VS.out VT.out (vl_add _ _ _)).mono ?_
  rintro e w265 ⟨rfl, b⟩
  have lz265 := (show Below _ _ _ from b).size
  replace GB := hid (below_step GB.out b)
  clear b
  refine hK.out _ _ (fun _ => KB.out _ GB.out) ?_
  clear hK
  refine wpAnyT_list [(9, (.bool false)), (10, (.bool false)), (11, (.slice a0 l0 c0)), (12, (.slice a1 l1 c1)), (14, (.agg #[.bool nx, .slice adx lx qx])), (16, (.agg #[.bool nU, .slice aU lU cU])), (17, (.agg #[.bool nV, .slice aV lV cV]))] 7 ?_ (KB.out _ GB.out) ?_
  · simp only [TakesV, gA9, g09, g19, Act.put, sI9, s09, s19]
    (repeat' (first | exact trivial | refine And.intro (Or.inl ⟨by rfl, ?_⟩) ?_)) <;> (intro w hSw; (try dsimp only at hSw); go_simp)
  simp only [actV, gA9, g09, g19, Act.put, sI9, s09, s19]
  refine wpAnyT_one (i := 13) (o := { dst := some 36, op := Op.call { callee := Callee.value (Operand.func 13), args := #[Operand.tmp 34, Operand.tmp 35], argTypes := #[22, 22] }, type := 22, pos := "outright.go:84", after := #[{ on := 11, ground := Ground.data }, { on := 12, ground := Ground.data }, { on := 10, ground := Ground.chain }, { on := 10, ground := Ground.guard }], guard := some (10, false) }) (by kernel_rfl) rfl (fun K hK => ?_)
  go_simp
  go_at_call 13
  refine (mulS (P.out.now GB.out) (Q.out.now GB.out) (by have := HK.out; omega) (by have := HLS.out; omega)).mono ?_
  rintro e w266 ⟨aM, lM, cM, rfl, EM, z0, b⟩
  have lz266 := (show Below _ _ _ from b).size
  replace GB := hid (below_step GB.out b)
  have M := hid z0
  clear z0
  clear b
  refine hK.out _ _ (fun _ => KB.out _ GB.out) ?_
  clear hK
  refine wpAnyT_one (i := 15) (o := { dst := some 38, op := Op.call { callee := Callee.value (Operand.func 23), args := #[Operand.tmp 36, Operand.tmp 37], argTypes := #[22, 25] }, type := 25, pos := "outright.go:84", after := #[{ on := 13, ground := Ground.data }, { on := 14, ground := Ground.data }, { on := 13, ground := Ground.chain }, { on := 10, ground := Ground.guard }], guard := some (10, false) }) (by kernel_rfl) rfl (fun K hK => ?_)
  go_simp
  go_at_call 23
  refine (valueV M.out.zl (X.out.now GB.out) (by have := HK.out; omega) HK.out).mono ?_
  rintro e w267 ⟨rM, rfl, m0, b⟩
  have lz267 := (show Below _ _ _ from b).size
  replace GB := hid (below_step GB.out b)
  have VM := hid m0.zi
  clear m0
  clear b
  refine hK.out _ _ (fun _ => KB.out _ GB.out) ?_
  clear hK
  refine wpAnyT_one (i := 18) (o := { dst := some 41, op := Op.call { callee := Callee.value (Operand.func 25), args := #[Operand.tmp 39, Operand.tmp 40], argTypes := #[25, 25] }, type := 25, pos := "outright.go:84", after := #[{ on := 16, ground := Ground.data }, { on := 17, ground := Ground.data }, { on := 15, ground := Ground.chain }, { on := 10, ground := Ground.guard }], guard := some (10, false) }) (by kernel_rfl) rfl (fun K hK => ?_)
  go_simp
  go_at_call 25
  refine (mul_z (U.out.now GB.out) (V.out.now GB.out) (by decide)).mono ?_
  rintro e w268 ⟨rN, rfl, m0, b⟩
  have lz268 := (show Below _ _ _ from b).size
  replace GB := hid (below_step GB.out b)
  replace VM := hid (VM.out.now b)
  have VN := hid m0.zi
  clear m0
  clear b
  refine hK.out _ _ (fun _ => KB.out _ GB.out) ?_
  clear hK
  refine wpAnyT_one (i := 19) (o := { dst := some 42, op := Op.call { callee := Callee.value (Operand.func 16), args := #[Operand.tmp 38, Operand.tmp 41], argTypes := #[25, 25] }, type := 3, pos := "outright.go:84", after := #[{ on := 15, ground := Ground.data }, { on := 18, ground := Ground.data }, { on := 18, ground := Ground.chain }, { on := 10, ground := Ground.guard }], guard := some (10, false) }) (by kernel_rfl) rfl (fun K hK => ?_)
  go_simp
  go_at_call 16
  refine (cmpSame VM.out VN.out (vl_mul _ _ _)).mono ?_
  rintro e w269 ⟨rfl, b⟩
  have lz269 := (show Below _ _ _ from b).size
  replace GB := hid (below_step GB.out b)
  clear b
  refine hK.out _ _ (fun _ => KB.out _ GB.out) ?_
  clear hK
  refine wpAnyT_list [(20, (.bool false))] 1 ?_ (KB.out _ GB.out) ?_
  · simp only [TakesV, gA9, g09, g19, Act.put, sI9, s09, s19]
    (repeat' (first | exact trivial | refine And.intro (Or.inl ⟨by rfl, ?_⟩) ?_)) <;> (intro w hSw; (try dsimp only at hSw); go_simp)
  simp only [actV, gA9, g09, g19, Act.put, sI9, s09, s19]
  refine wpAnyT_one (i := 21) (o := { dst := some 44, op := Op.pick (Operand.tmp 33) (Operand.const (Value.bool true)) (Operand.tmp 43), type := 4, pos := "outright.go:84", after := #[{ on := 10, ground := Ground.data }, { on := 20, ground := Ground.data }], guard := none }) (by kernel_rfl) rfl (fun K hK => ?_)
  go_simp
  refine hK.out _ _ (fun h => absurd h (by decide)) ?_
  clear hK
  try simp only [Act.put]
  refine wpAnyT_done (by kernel_rfl) ?_ _
  replace P := hid (P.out.now GB.out)
  replace PR := hid (PR.out.now GB.out)
  replace ZI := hid (ZI.out.now GB.out)
  replace Q := hid (Q.out.now GB.out)
  replace X := hid (X.out.now GB.out)
  replace DX := hid (DX.out.step GB.out)
  replace U := hid (U.out.now GB.out)
  replace DU := hid (DU.out.step GB.out)
  replace V := hid (V.out.now GB.out)
  replace DV := hid (DV.out.step GB.out)
  replace G := hid (below_step G.out GB.out)
  clear GB KB d0 d1 e0 e1 f0 f1
  clear S VS VT M VM VN Q V DV ES EM
  obtain ⟨V7, hV⟩ : ∃ V7, w269.alloc (duo (.bool nx) (.slice adx lx qx)) = V7 := ⟨_, rfl⟩
  obtain ⟨b, sz7⟩ := alo1 w269 (duo (.bool nx) (.slice adx lx qx))
  rw [hV] at b sz7
  have D7 : Hid (Duo V7 w269.heap.size (.bool nx) (.slice adx lx qx)) := by unfold Hid; rw [← hV]; exact Duo.new w269 _ _
  have OW : Hid (OwnP w269.heap.size V7 (.slice (some ⟨w269.heap.size, 0, none⟩) 1 1) [(.bool nx, .slice adx lx qx)]) := ownP_one D7.out (Nat.le_refl _)
  have PV := hid (PR.out.now b)
  have BV := hid b
  have HLN : Hid ([((.bool nx, .slice adx lx qx) : Value × Value)].length + pps.length ≤ 1048576) := by unfold Hid; rw [HPL.out]; have := HLS.out; simp; omega
  have EV := hid hV
  have d0 := DX.out.c0
  have d1 := DX.out.c1
  clear b sz7 hV D7
  go_wp2_with (at_builtin; rw [EV.out]; refine wpList_append_pairs V7 rfl (.tmp 46) (.tmp 47) rfl w269.heap.size _ _ [(.bool nx, .slice adx lx qx)] pps rfl OW.out rfl 0 PV.out HII.out HLN.out BV.out.size ?_)
  intro v9 w9 ho9 hg9
  have B9 := hid (grown_below (B := 0) BV.out OW.out hg9.out)
  have PL := hid (owns_prs ho9 (by have := HLN.out; simp at this ⊢; omega))
  clear ho9 hg9 OW PV BV EV d0 d1
  replace P := hid (P.out.now B9.out)
  replace PR := hid (PR.out.now B9.out)
  replace ZI := hid (ZI.out.now B9.out)
  replace X := hid (X.out.now B9.out)
  replace DX := hid (DX.out.step B9.out)
  replace U := hid (U.out.now B9.out)
  replace DU := hid (DU.out.step B9.out)
  replace G := hid (below_step G.out B9.out)
  have LO : Hid (Zl w9 v9 (x :: ps) k) := zl_of PL.out ⟨by simp [HPL.out], fun j pr z hp hz => by
    cases j with
    | zero =>
      simp at hp hz
      subst hp hz
      exact X.out
    | succ j => exact ZI.out.2 j pr z (by simpa using hp) (by simpa using hz)⟩
  obtain ⟨a9, c9, hv9, -⟩ := PL.out.form
  obtain ⟨l9, hl9⟩ : ∃ l9, (((.bool nx, .slice adx lx qx) : Value × Value) :: pps).length = l9 := ⟨_, rfl⟩
  rw [hl9] at hv9
  subst hv9
  clear PL B9 hl9 PR ZI
  go_upto_region 8 with fail
  have d0 := DX.out.c0
  have d1 := DX.out.c1
  have e0 := DU.out.c0
  have e1 := DU.out.c1
  have KB : Hid (∀ w', Below w9.heap.size w9 w' → w'.cell? ⟨bX, 0, none⟩ = some (.bool nx) ∧ w'.cell? ⟨bX, 1, none⟩ = some (.slice adx lx qx) ∧ w'.cell? ⟨bU, 0, none⟩ = some (.bool nU) ∧ w'.cell? ⟨bU, 1, none⟩ = some (.slice aU lU cU)) := fun w' h => ⟨cnow h d0, cnow h d1, cnow h e0, cnow h e1⟩
  refine wp_region_tail (fun w' => w'.cell? ⟨bX, 0, none⟩ = some (.bool nx) ∧ w'.cell? ⟨bX, 1, none⟩ = some (.slice adx lx qx) ∧ w'.cell? ⟨bU, 0, none⟩ = some (.bool nU) ∧ w'.cell? ⟨bU, 1, none⟩ = some (.slice aU lU cU)) 8 (by kernel_rfl) ?_
  obtain ⟨D381, hD⟩ : ∃ D381, w9.drew = D381 := ⟨_, rfl⟩
  have GB : Hid (Below w9.heap.size w9 D381) := by unfold Hid; rw [← hD]; exact (Below.refl _ _).drew
  rw [hD]
  clear hD
  refine wpAnyT_list [(0, (.slice a9 l9 c9)), (1, (.agg #[.bool nx, .slice adx lx qx])), (3, (.agg #[.bool nx, .slice adx lx qx])), (4, (.agg #[.bool nU, .slice aU lU cU])), (5, (.agg #[.bool nx, .slice adx lx qx]))] 5 ?_ (KB.out _ GB.out) ?_
  · simp only [TakesV, gA9, g09, g19, Act.put, sI9, s09, s19]
    (repeat' (first | exact trivial | refine And.intro (Or.inl ⟨by rfl, ?_⟩) ?_)) <;> (intro w hSw; (try dsimp only at hSw); go_simp)
  simp only [actV, gA9, g09, g19, Act.put, sI9, s09, s19]
  refine wpAnyT_one (i := 2) (o := { dst := some 51, op := Op.call { callee := Callee.value (Operand.func 23), args := #[Operand.tmp 49, Operand.tmp 50], argTypes := #[22, 25] }, type := 25, pos := "outright.go:88", after := #[{ on := 0, ground := Ground.data }, { on := 1, ground := Ground.data }], guard := none }) (by kernel_rfl) rfl (fun K hK => ?_)
  go_simp
  go_at_call 23
  refine (valueV (LO.out.now GB.out) (X.out.now GB.out) (by have := HK.out; omega) HK.out).mono ?_
  rintro e w382 ⟨rS, rfl, m0, b⟩
  have lz382 := (show Below _ _ _ from b).size
  replace GB := hid (below_step GB.out b)
  have VL := hid m0.zi
  clear m0
  clear b
  refine hK.out _ _ (fun _ => KB.out _ GB.out) ?_
  clear hK
  refine wpAnyT_one (i := 6) (o := { dst := some 55, op := Op.call { callee := Callee.value (Operand.func 26), args := #[Operand.tmp 52, Operand.tmp 53, Operand.tmp 54], argTypes := #[25, 25, 25] }, type := 25, pos := "outright.go:88", after := #[{ on := 3, ground := Ground.data }, { on := 4, ground := Ground.data }, { on := 5, ground := Ground.data }, { on := 2, ground := Ground.chain }], guard := none }) (by kernel_rfl) rfl (fun K hK => ?_)
  go_simp
  go_at_call 26
  refine (mulAdd_z (X.out.now GB.out) (U.out.now GB.out) (X.out.now GB.out) (by have := HK.out; omega) (by have := HK.out; omega)).mono ?_
  rintro e w383 ⟨rT, rfl, m0, b⟩
  have lz383 := (show Below _ _ _ from b).size
  replace GB := hid (below_step GB.out b)
  replace VL := hid (VL.out.now b)
  have VT := hid m0.zi
  clear m0
  clear b
  refine hK.out _ _ (fun _ => KB.out _ GB.out) ?_
  clear hK
  refine wpAnyT_one (i := 7) (o := { dst := some 56, op := Op.call { callee := Callee.value (Operand.func 16), args := #[Operand.tmp 51, Operand.tmp 55], argTypes := #[25, 25] }, type := 3, pos := "outright.go:88", after := #[{ on := 2, ground := Ground.data }, { on := 6, ground := Ground.data }, { on := 6, ground := Ground.chain }], guard := none }) (by kernel_rfl) rfl (fun K hK => ?_)
  go_simp
  go_at_call 16
  refine (cmpSame VL.out VT.out (by rw [vl_cons, Int.add_comm])).mono ?_
  rintro e w384 ⟨rfl, b⟩
  have lz384 := (show Below _ _ _ from b).size
  replace GB := hid (below_step GB.out b)
  clear b
  refine hK.out _ _ (fun _ => KB.out _ GB.out) ?_
  clear hK
  refine wpAnyT_one (i := 8) (o := { dst := some 57, op := Op.binOp BinOp.neq 3 (Operand.tmp 56) (Operand.const (Value.int IntKind.i64 0)) 3, type := 4, pos := "outright.go:88", after := #[{ on := 7, ground := Ground.data }], guard := none }) (by kernel_rfl) rfl (fun K hK => ?_)
  go_simp
  refine hK.out _ _ (fun h => absurd h (by decide)) ?_
  clear hK
  try simp only [Act.put]
  refine wpAnyT_done (by kernel_rfl) ?_ _
  replace P := hid (P.out.now GB.out)
  replace X := hid (X.out.now GB.out)
  replace DX := hid (DX.out.step GB.out)
  replace U := hid (U.out.now GB.out)
  replace DU := hid (DU.out.step GB.out)
  replace LO := hid (LO.out.now GB.out)
  replace G := hid (below_step G.out GB.out)
  clear GB KB d0 d1 e0 e1
  clear VL VT LO
  have d0 := DX.out.c0
  have d1 := DX.out.c1
  go_wp2_with fail
  clear d0 d1
  refine (neg_z X.out).mono ?_
  rintro e w601 ⟨r0, rfl, m0, b⟩
  replace P := hid (P.out.now b)
  replace X := hid (X.out.now b)
  replace DX := hid (DX.out.step b)
  replace U := hid (U.out.now b)
  replace DU := hid (DU.out.step b)
  replace G := hid (below_step G.out b)
  have N := hid m0.zi
  obtain ⟨nN, xN, aN, cN, rfl⟩ := m0.parts
  obtain ⟨lN, hlu⟩ : ∃ lN, xN.length = lN := ⟨_, rfl⟩
  rw [hlu] at N ⊢
  clear m0 hlu
  clear b
  go_wp2_with fail
  refine (of16 (n := 1) (by decide) (by decide) _).mono ?_
  rintro e w602 ⟨aO, cO, rfl, zO, b⟩
  replace P := hid (P.out.now b)
  replace X := hid (X.out.now b)
  replace DX := hid (DX.out.step b)
  replace U := hid (U.out.now b)
  replace DU := hid (DU.out.step b)
  replace N := hid (N.out.now b)
  replace G := hid (below_step G.out b)
  have O := hid zO.zi
  clear zO
  clear b
  obtain ⟨V603, hV⟩ : ∃ V603, w602.alloc (.cells #[.bool nN, .slice aN lN cN, .bool false, .slice aO 1 cO] 25) = V603 := ⟨_, rfl⟩
  obtain ⟨b, sz603⟩ := alo1 w602 (.cells #[.bool nN, .slice aN lN cN, .bool false, .slice aO 1 cO] 25)
  rw [hV] at b sz603
  replace P := hid (P.out.now b)
  replace X := hid (X.out.now b)
  replace DX := hid (DX.out.step b)
  replace U := hid (U.out.now b)
  replace DU := hid (DU.out.step b)
  replace N := hid (N.out.now b)
  replace O := hid (O.out.now b)
  replace G := hid (below_step G.out b)
  clear b sz603
  have DQ : Hid (Cel V603 w602.heap.size 25 [.bool nN, .slice aN lN cN, .bool false, .slice aO 1 cO]) := by unfold Hid; rw [← hV]; exact Cel.new w602 _ _
  have Q2 : Hid (Zl V603 (.slice (some ⟨w602.heap.size, 0, none⟩) 2 2) [-x, 1] 1048576) := zl_two16 DQ.out (N.out.more HK.out) (O.out.more (by decide))
  clear N O DQ
  have EV : Hid (w602.alloc (.cells #[.bool nN, .slice aN lN cN, .bool false, .slice aO 1 cO] 25) = V603) := hV
  clear hV
  go_wp2_with fail
  rw [EV.out]
  clear EV
  have HDV := hid (divMonic_any P.out Q2.out (K := 1200000000000) (by have h1 : l0 * (1048576 + 2) ≤ 1048576 * 1048578 := Nat.mul_le_mul (by have := HL0.out; have := HLS.out; omega) (by decide); have := HK.out; omega) (by decide))
  rw [tr_lin] at HDV
  refine HDV.out.mono ?_
  rintro e w1 (⟨hm, rfl, b⟩ | ⟨hm, U2, R, v1, v2, rfl, zu, zr, hd, hul, b⟩)
  · rw [mon_lin] at hm; cases hm
  have ZR := hid zr
  have HD := hid hd
  obtain ⟨aR, cR, rfl, hfR⟩ := zr.full
  obtain ⟨aU2, cU2, rfl, -⟩ := zu.full
  have HLR : Hid (R.length < 2) := hd.2.2.2
  obtain ⟨lR, hlR⟩ : ∃ lR, R.length = lR := ⟨_, rfl⟩
  obtain ⟨lU2, hlU2⟩ : ∃ lU2, U2.length = lU2 := ⟨_, rfl⟩
  have ER := hid hlR
  have FR := hid hfR
  rw [hlR] at ZR HLR ⊢
  rw [hlU2]
  have hr1 : lR ≤ 1 := by have := HLR.out; omega
  have hr1' : ¬ (1 : Int) < (lR : Int) := by omega
  have hr1n : ¬ 1 < lR := by omega
  clear hm zu zr hd hul hlR hlU2 HDV Q2 hfR
  replace P := hid (P.out.now b)
  replace X := hid (X.out.now b)
  replace DX := hid (DX.out.step b)
  replace U := hid (U.out.now b)
  replace DU := hid (DU.out.step b)
  replace G := hid (below_step G.out b)
  clear b
  have EVL : Hid (vlQ ps x = vlQ R x) := HD.out.value
  by_cases h0 : lR = 0
  · subst h0
    have HU0 : Hid (vlQ ps x = 0) := by unfold Hid; rw [EVL.out, List.eq_nil_of_length_eq_zero ER.out, vl_nil]
    have e0 := DU.out.c0
    have e1 := DU.out.c1
    go_wp2_with fail
    clear e0 e1
    refine (sign0 U.out HU0.out).mono ?_
    rintro e w604 ⟨rfl, b⟩
    replace P := hid (P.out.now b)
    replace X := hid (X.out.now b)
    replace DX := hid (DX.out.step b)
    replace U := hid (U.out.now b)
    replace DU := hid (DU.out.step b)
    replace ZR := hid (ZR.out.now b)
    replace G := hid (below_step G.out b)
    clear b
    have FIN : Hid (SaysB w true (.returned (.bool true)) w604) := ⟨rfl, G.out⟩
    clear P X U DX DU ZR G
    go_wp2
    go_ret
    exact FIN.out
  · obtain rfl : lR = 1 := by omega
    have hR0 : 0 < R.length := by rw [ER.out]; decide
    obtain ⟨b2, o2, rfl⟩ := FR.out (fun e => by rw [e] at hR0; simp at hR0)
    have HU0 : Hid (cf R 0 = vlQ ps x) := by
      unfold Hid
      rw [EVL.out]
      obtain ⟨c, hc⟩ : ∃ c, R = [c] := List.length_eq_one_iff.1 ER.out
      rw [hc, vl_cons, vl_nil]
      simp [cf]
    obtain ⟨ng, xg, adg, qg, j0, j1, zg⟩ := ZR.out.at16 hR0
    obtain ⟨lg, hlg⟩ : ∃ lg, xg.length = lg := ⟨_, rfl⟩
    rw [hlg] at j1 zg
    simp only [Nat.zero_mul, Nat.add_zero] at j0 j1
    have ZG := hid zg
    have e0 := DU.out.c0
    have e1 := DU.out.c1
    clear zg hlg h0
    go_upto_region 15 with fail
    have KB : Hid (∀ w', Below w1.heap.size w1 w' → w'.cell? ⟨b2, o2, none⟩ = some (.bool ng) ∧ w'.cell? ⟨b2, o2 + 1, none⟩ = some (.slice adg lg qg) ∧ w'.cell? ⟨bU, 0, none⟩ = some (.bool nU) ∧ w'.cell? ⟨bU, 1, none⟩ = some (.slice aU lU cU)) := fun w' h => ⟨cnow h j0, cnow h j1, cnow h e0, cnow h e1⟩
    refine wp_region_tail (fun w' => w'.cell? ⟨b2, o2, none⟩ = some (.bool ng) ∧ w'.cell? ⟨b2, o2 + 1, none⟩ = some (.slice adg lg qg) ∧ w'.cell? ⟨bU, 0, none⟩ = some (.bool nU) ∧ w'.cell? ⟨bU, 1, none⟩ = some (.slice aU lU cU)) 6 (by kernel_rfl) ?_
    obtain ⟨D901, hD⟩ : ∃ D901, w1.drew = D901 := ⟨_, rfl⟩
    have GB : Hid (Below w1.heap.size w1 D901) := by unfold Hid; rw [← hD]; exact (Below.refl _ _).drew
    rw [hD]
    clear hD
    refine wpAnyT_list [(0, (.slice (some ⟨b2, o2, none⟩) 1 cR)), (1, (.pointer (some ⟨b2, o2, none⟩))), (2, (.agg #[.bool ng, .slice adg lg qg])), (3, (.agg #[.bool nU, .slice aU lU cU]))] 4 ?_ (KB.out _ GB.out) ?_
    · simp only [TakesV, gA9, g09, g19, Act.put, sI9, s09, s19]
      (repeat' (first | exact trivial | refine And.intro (Or.inl ⟨by rfl, ?_⟩) ?_)) <;> (intro w hSw; (try dsimp only at hSw); go_simp)
    simp only [actV, gA9, g09, g19, Act.put, sI9, s09, s19]
    refine wpAnyT_one (i := 4) (o := { dst := some 85, op := Op.call { callee := Callee.value (Operand.func 16), args := #[Operand.tmp 83, Operand.tmp 84], argTypes := #[25, 25] }, type := 3, pos := "outright.go:98", after := #[{ on := 2, ground := Ground.data }, { on := 3, ground := Ground.data }], guard := none }) (by kernel_rfl) rfl (fun K hK => ?_)
    go_simp
    go_at_call 16
    refine (cmpSame (ZG.out.zi.now GB.out) (U.out.now GB.out) HU0.out).mono ?_
    rintro e w902 ⟨rfl, b⟩
    have lz902 := (show Below _ _ _ from b).size
    replace GB := hid (below_step GB.out b)
    clear b
    refine hK.out _ _ (fun _ => KB.out _ GB.out) ?_
    clear hK
    refine wpAnyT_list [(5, (.bool true))] 1 ?_ (KB.out _ GB.out) ?_
    · simp only [TakesV, gA9, g09, g19, Act.put, sI9, s09, s19]
      (repeat' (first | exact trivial | refine And.intro (Or.inl ⟨by rfl, ?_⟩) ?_)) <;> (intro w hSw; (try dsimp only at hSw); go_simp)
    simp only [actV, gA9, g09, g19, Act.put, sI9, s09, s19]
    refine wpAnyT_one (i := 6) (o := { dst := some 6, op := Op.assign (Operand.tmp 86), type := 4, pos := "outright.go:98", after := #[{ on := 5, ground := Ground.data }, { on := 4, ground := Ground.chain }, { on := 0, ground := Ground.phase }, { on := 1, ground := Ground.phase }, { on := 2, ground := Ground.phase }, { on := 3, ground := Ground.phase }, { on := 4, ground := Ground.phase }, { on := 5, ground := Ground.phase }], guard := none }) (by kernel_rfl) rfl (fun K hK => ?_)
    go_simp
    refine hK.out _ _ (fun h => absurd h (by decide)) ?_
    clear hK
    try simp only [Act.put]
    refine wpAnyT_done (by kernel_rfl) ?_ _
    have FIN : Hid (SaysB w true (.returned (.bool true)) w902) := ⟨rfl, below_step G.out GB.out⟩
    clear P X U DX DU ZR G GB KB
    go_wp2
    go_ret
    exact FIN.out
end Go.Proofs.Ytnpcfohimlfbdaa
