/-
  Mr12: the law ModpRefuses.
-/
import Derived.Test.YtonmlmdnjjafhaaGreatQRr12
import Derived.Test.YtonmlmdnjjafhaaGreatQR5AddToLess6
import Derived.Test.YtonmlmdnjjafhaaGreatQFil9ToRowsOf9
import Derived.Test.YtonmlmdnjjafhaaGreatQRs12ToTailA
namespace Go.Proofs.YtonmlmdnjjafhaaGreat
open Go.RowKit
set_option linter.unusedVariables false

set_option maxHeartbeats 6400000 in
set_option maxRecDepth 100000 in
theorem modpRefuses_un {w : World} {r c : Int} {a : Option Addr} {l cap p : Nat} (hl : l ≤ 1048576) (hs : ¬ Snd r c l) (hc : ChkAt w r c a l cap false) :
    Calls Tryz.prog 3 #[mrV r c a l cap, .int .u64 (p : Int)] w fun e w' => e = .returned (.bool true) ∧ Below w.heap.size w w' := by
  have HSB : Hid (∀ w', Calls Tryz.prog 9 #[mrV r c a l cap] w' fun e w'' => e = .returned (.bool false) ∧ Below w'.heap.size w' w'') := fun w' => soundB (s := false) hl ⟨(fun h => by cases h), fun h => absurd h hs⟩
  obtain ⟨W0, hW⟩ : ∃ W0, w.alloc (mrO r c a l cap) = W0 := ⟨_, rfl⟩
  obtain ⟨b0, sz0⟩ := alo12 w (mrO r c a l cap)
  rw [hW] at b0 sz0
  have P1 : Hid (Cel W0 w.heap.size 24 (mrC r c a l cap)) := by unfold Hid; rw [← hW]; exact Cel.new w _ _
  have HW := hid (wakes12 W0)
  have G0 := hid b0
  have EW := hid hW
  have HRF : Hid (∀ w', Below w.heap.size w w' → Calls Tryz.prog 11 #[mrV r c a l cap, .int .u64 (p : Int)] w' fun e w'' => e = .returned (.bool true) ∧ Below w'.heap.size w' w'') := fun w' h => refuses_un hl hs (hc.now h)
  clear b0 sz0 hW hs hc
  go_enter Tryz.func3, Tryz.ntmps3
  go_wp2_with fail
  rw [EW.out]
  refine HW.out.mono ?_
  rintro e w1 ⟨rfl, b1⟩
  replace P1 := hid (P1.out.step b1)
  have G1 := hid (below_step G0.out b1)
  have x0 := P1.out.at (i := 0) rfl
  have x1 := P1.out.at (i := 1) rfl
  have x2 := P1.out.at (i := 2) rfl
  clear HW EW b1 G0
  go_wp2_with fail
  refine (HSB.out w1).mono ?_
  rintro e w2 ⟨rfl, b2⟩
  replace P1 := hid (P1.out.step b2)
  have G2 := hid (below_step G1.out b2)
  clear b2 G1 x0 x1 x2
  have x0 := P1.out.at (i := 0) rfl
  have x1 := P1.out.at (i := 1) rfl
  have x2 := P1.out.at (i := 2) rfl
  go_wp2_with fail
  refine (HRF.out w2 G2.out).mono ?_
  rintro e w3 ⟨rfl, b3⟩
  have G3 := hid (below_step G2.out b3)
  clear b3 x0 x1 x2 P1 G2
  go_wp2
  go_ret
  exact ⟨rfl, G3.out⟩
set_option maxHeartbeats 6400000 in
set_option maxRecDepth 100000 in
theorem modpRefuses_no {w : World} {r c : Int} {a : Option Addr} {l cap p : Nat} (hl : l ≤ 1048576) (hs : Snd r c l) (hg : gdB p = false) (hc : ChkAt w r c a l cap true) :
    Calls Tryz.prog 3 #[mrV r c a l cap, .int .u64 (p : Int)] w fun e w' => e = .returned (.bool true) ∧ Below w.heap.size w w' := by
  have HSB : Hid (∀ w', Calls Tryz.prog 9 #[mrV r c a l cap] w' fun e w'' => e = .returned (.bool true) ∧ Below w'.heap.size w' w'') := fun w' => soundB (s := true) hl ⟨fun _ => hs, fun _ => rfl⟩
  obtain ⟨W0, hW⟩ : ∃ W0, w.alloc (mrO r c a l cap) = W0 := ⟨_, rfl⟩
  obtain ⟨b0, sz0⟩ := alo12 w (mrO r c a l cap)
  rw [hW] at b0 sz0
  have P1 : Hid (Cel W0 w.heap.size 24 (mrC r c a l cap)) := by unfold Hid; rw [← hW]; exact Cel.new w _ _
  have HW := hid (wakes12 W0)
  have G0 := hid b0
  have EW := hid hW
  have HRF : Hid (∀ w', Below w.heap.size w w' → Calls Tryz.prog 11 #[mrV r c a l cap, .int .u64 (p : Int)] w' fun e w'' => e = .returned (.bool true) ∧ Below w'.heap.size w' w'') := fun w' h => refuses_no hl hs hg (hc.now h)
  have HLP : Hid (∀ w', Calls Tryz.prog 10 #[.int .u64 (p : Int)] w' fun e w'' => e = .returned (.bool false) ∧ w'' = w') := fun w' => by have := lawPrimeB (w := w') (p := p); rw [hg] at this; exact this
  clear b0 sz0 hW hs hc hg
  go_enter Tryz.func3, Tryz.ntmps3
  go_wp2_with fail
  rw [EW.out]
  refine HW.out.mono ?_
  rintro e w1 ⟨rfl, b1⟩
  replace P1 := hid (P1.out.step b1)
  have G1 := hid (below_step G0.out b1)
  have x0 := P1.out.at (i := 0) rfl
  have x1 := P1.out.at (i := 1) rfl
  have x2 := P1.out.at (i := 2) rfl
  clear HW EW b1 G0
  go_wp2_with fail
  refine (HSB.out w1).mono ?_
  rintro e w2 ⟨rfl, b2⟩
  replace P1 := hid (P1.out.step b2)
  have G2 := hid (below_step G1.out b2)
  clear b2 G1 x0 x1 x2
  have x0 := P1.out.at (i := 0) rfl
  have x1 := P1.out.at (i := 1) rfl
  have x2 := P1.out.at (i := 2) rfl
  go_wp2_with fail
  refine (HLP.out w2).mono ?_
  rintro e w9 ⟨rfl, hw9⟩
  have hw9' := hw9.symm
  subst hw9'
  clear hw9
  go_wp2_with fail
  refine (HRF.out w2 G2.out).mono ?_
  rintro e w3 ⟨rfl, b3⟩
  have G3 := hid (below_step G2.out b3)
  clear b3 x0 x1 x2 P1 G2
  go_wp2
  go_ret
  exact ⟨rfl, G3.out⟩
def MrH (V : World) (n gk : Nat) (s : Value) (wx : World) : Prop := ∃ i : Nat, s = .int .i64 (i : Int) ∧ i ≤ n ∧ gk = n - i ∧ Below V.heap.size V wx
theorem sub_res (z : Int) (p : Nat) : (z - z % (p : Int)) % (p : Int) = 0 := by
  have := Int.emod_emod_of_dvd z (Int.dvd_refl (p : Int))
  rw [Int.sub_emod, this, Int.sub_self]
  exact Int.zero_emod _
set_option maxHeartbeats 6400000 in
set_option maxRecDepth 100000 in
theorem modpRefuses_ok {w : World} {v : Value} {r c p : Nat} {zs : List Int} (hp : gdB p = true) (h : Mx w v r c zs 1048576) :
    Calls Tryz.prog 3 #[v, .int .u64 (p : Int)] w fun e w' => e = .returned (.bool true) ∧ Below w.heap.size w w' := by
  have hm0 := h
  obtain ⟨a, cap, rfl, hr, hcc⟩ := h.form
  have hzl : zs.length = r * c := by obtain ⟨_, _, _, _, _, q, _⟩ := hm0; exact q
  have hlm : r * c ≤ 64 * 64 := Nat.mul_le_mul hr hcc
  obtain ⟨l, hll⟩ : ∃ l, r * c = l := ⟨_, rfl⟩
  rw [hll] at hm0 hzl hlm ⊢
  have hl : l ≤ 1048576 := by omega
  have hs : Snd (r : Int) (c : Int) l := ⟨by omega, by omega, by omega, by omega, by rw [← hll]; simp⟩
  have HSB : Hid (∀ w', Calls Tryz.prog 9 #[mrV (r : Int) (c : Int) a l cap] w' fun e w'' => e = .returned (.bool true) ∧ Below w'.heap.size w' w'') := fun w' => soundB (s := true) hl ⟨fun _ => hs, fun _ => rfl⟩
  obtain ⟨W0, hW⟩ : ∃ W0, w.alloc (mrO (r : Int) (c : Int) a l cap) = W0 := ⟨_, rfl⟩
  obtain ⟨b0, sz0⟩ := alo12 w (mrO (r : Int) (c : Int) a l cap)
  rw [hW] at b0 sz0
  have P1 : Hid (Cel W0 w.heap.size 24 (mrC (r : Int) (c : Int) a l cap)) := by unfold Hid; rw [← hW]; exact Cel.new w _ _
  have HW := hid (wakes12 W0)
  have G0 := hid b0
  have EW := hid hW
  have HLP : Hid (∀ w', Calls Tryz.prog 10 #[.int .u64 (p : Int)] w' fun e w'' => e = .returned (.bool true) ∧ w'' = w') := fun w' => by have := lawPrimeB (w := w') (p := p); rw [hp] at this; exact this
  have HRD : Hid (∀ w', Below w.heap.size w w' → Calls Tryz.prog 12 #[matv r c (.slice a l cap), .int .u64 (p : Int)] w' (GivesMO w' r c (resL p zs) 1)) := fun w' hb => reduceOf12 hp (hm0.now hb) (by omega)
  obtain ⟨hpr, hp2⟩ := gd_parts hp
  have hp1 := hpr.1
  have HZL : Hid (Zl w (.slice a l cap) zs 1048576) := by
    unfold Hid
    obtain ⟨at_, ps, e, h1, h2, -⟩ := hm0
    simp only [Value.agg.injEq, Array.mk.injEq, List.cons.injEq, and_true, true_and] at e
    rw [e]
    exact zl_of h1 h2
  have HZN := hid hzl
  have HLL := hid hll
  have HRES : Hid (Res p (resL p zs)) := hid (resL_res (by omega) _)
  clear b0 sz0 hW hs hp hpr h hm0 hll
  go_enter Tryz.func3, Tryz.ntmps3
  go_wp2_with fail
  rw [EW.out]
  refine HW.out.mono ?_
  rintro e w1 ⟨rfl, b1⟩
  replace P1 := hid (P1.out.step b1)
  have G1 := hid (below_step G0.out b1)
  have x0 := P1.out.at (i := 0) rfl
  have x1 := P1.out.at (i := 1) rfl
  have x2 := P1.out.at (i := 2) rfl
  clear HW EW b1 G0
  go_wp2_with fail
  refine (HSB.out w1).mono ?_
  rintro e w2 ⟨rfl, b2⟩
  replace P1 := hid (P1.out.step b2)
  have G2 := hid (below_step G1.out b2)
  clear b2 G1 x0 x1 x2
  have x0 := P1.out.at (i := 0) rfl
  have x1 := P1.out.at (i := 1) rfl
  have x2 := P1.out.at (i := 2) rfl
  go_wp2_with fail
  refine (HLP.out w2).mono ?_
  rintro e w9 ⟨rfl, hw9⟩
  have hw9' := hw9.symm
  subst hw9'
  clear hw9
  go_wp2_with fail
  refine (HRD.out w2 G2.out).mono ?_
  rintro e w3 ⟨v3, rfl, hm3, b3⟩
  have hm3' := hm3
  obtain ⟨a3, c3, rfl, -, -⟩ := hm3.mx.form
  rw [HLL.out] at hm3 hm3' ⊢
  obtain ⟨at3, qs, e3, g1, g2, g3, -, -⟩ := hm3'
  simp only [Value.agg.injEq, Array.mk.injEq, List.cons.injEq, and_true, true_and] at e3
  subst e3
  obtain ⟨X, hX⟩ : ∃ X, w3.alloc (mrO (r : Int) (c : Int) a3 l c3) = X := ⟨_, rfl⟩
  obtain ⟨bX, szX⟩ := alo12 w3 (mrO (r : Int) (c : Int) a3 l c3)
  rw [hX] at bX szX
  have PX : Hid (Cel X w3.heap.size 24 (mrC (r : Int) (c : Int) a3 l c3)) := by unfold Hid; rw [← hX]; exact Cel.new w3 _ _
  have bW := below_step b3 bX
  have PM := hid (P1.out.step bW)
  have GX := hid (below_step G2.out bW)
  have ZM := hid (zl_of (g1.now bX) (g2.now bX).zis)
  have HLE := hid (least12_yes (g1.now bX) (g2.now bX) HRES.out hp2)
  have y0 := PM.out.at (i := 0) rfl
  have y1 := PM.out.at (i := 1) rfl
  have y2 := PM.out.at (i := 2) rfl
  have u0 := PX.out.at (i := 0) rfl
  have u1 := PX.out.at (i := 1) rfl
  have u2 := PX.out.at (i := 2) rfl
  have ZA := hid (HZL.out.now GX.out)
  have EX := hid hX
  have BX3 := hid szX
  rw [← hX] at y0 y1 y2 u0 u1 u2
  have q0 : ((0 : Int) != 0) = false := rfl
  have q1 : ((r : Int) != (r : Int)) = false := by simp
  have q2 : ((c : Int) != (c : Int)) = false := by simp
  have q3 : ((l : Int) != (l : Int)) = false := by simp
  clear hm3 b3 bX szX hX bW x0 x1 x2 P1 G2 g1 g2 g3 HLP HRD HSB
  go_wp2_with fail
  rw [EX.out]
  refine HLE.out.mono ?_
  rintro e w9 ⟨rfl, hw9⟩
  have hw9' := hw9.symm
  subst hw9'
  clear hw9 HLE
  rw [EX.out] at y0 y1 y2 u0 u1 u2
  have H0 : Hid (MrH X l l (.int .i64 0) X) := ⟨0, rfl, Nat.zero_le _, rfl, Below.refl _ _⟩
  clear EX y0 y1 u0 u1 y2 u2 q0 q1 q2 q3
  generalize w3.heap.size = mb at *
  go_wp2_with fail
  go_loopg [7] l (fun gk s7 wx => MrH X l gk s7 wx)
  case atStart => exact H0.out
  case round =>
    clear H0
    obtain ⟨i, rfl, hin, hg, hG⟩ := hrel
    have G := hid hG
    have HG := hid hg
    clear hG hg
    have y2 := (PM.out.step G.out).at (i := 2) rfl
    by_cases hlt : i < l
    · have hlt' : (i : Int) < (l : Int) := by omega
      have hix : i < zs.length := by rw [HZN.out]; exact hlt
      have u2 := (PX.out.step G.out).at (i := 2) rfl
      obtain ⟨aa, ca, ea, -, -, fa⟩ := ZA.out.form9
      obtain ⟨am, cm, em, -, -, fm⟩ := ZM.out.form9
      simp only [Value.slice.injEq] at ea em
      obtain ⟨b1, o1, ha1⟩ := fa (fun e => by rw [e] at hix; simp at hix)
      obtain ⟨b4, o4, ha4⟩ := fm (fun e => by have := resL_len p zs; rw [e] at this; simp at this; omega)
      obtain ⟨rfl, -, -⟩ := ea
      obtain ⟨rfl, -, -⟩ := em
      subst ha1 ha4
      obtain ⟨nf, xf, adf, qf, k0, k1, zf⟩ := (ZA.out.now G.out).at9 (i := i) hix
      obtain ⟨nm, xm, adm, qm, k2, k3, zm⟩ := (ZM.out.now G.out).at9 (i := i) (by rw [resL_len]; exact hix)
      obtain ⟨z, hz⟩ : ∃ z, zs[i] = z := ⟨_, rfl⟩
      have ez : (resL p zs)[i]'(by rw [resL_len]; exact hix) = z % (p : Int) := by rw [← hz]; simp [resL]
      rw [ez] at zm
      rw [hz] at zf
      have ZF := hid zf
      have ZE := hid zm
      have hw := wrapJ hlt hl
      have HMM : Hid (l - (i + 1) < gk) := by unfold Hid; rw [HG.out]; omega
      clear zf zm hz ez fa fm HG
      go_wp2_with fail
      have KB : Hid (∀ w', Below wr.heap.size wr w' → w'.cell? ⟨w.heap.size, 2, none⟩ = some (.slice (some ⟨b1, o1, none⟩) l cap) ∧ w'.cell? ⟨mb, 2, none⟩ = some (.slice (some ⟨b4, o4, none⟩) l c3) ∧ w'.cell? ⟨b1, o1 + i * 2, none⟩ = some (.bool nf) ∧ w'.cell? ⟨b1, o1 + i * 2 + 1, none⟩ = some (.slice adf xf.length qf) ∧ w'.cell? ⟨b4, o4 + i * 2, none⟩ = some (.bool nm) ∧ w'.cell? ⟨b4, o4 + i * 2 + 1, none⟩ = some (.slice adm xm.length qm)) := fun w' h => ⟨cnow h y2, cnow h u2, cnow h k0, cnow h k1, cnow h k2, cnow h k3⟩
      refine wp_region_tail (fun w' => w'.cell? ⟨w.heap.size, 2, none⟩ = some (.slice (some ⟨b1, o1, none⟩) l cap) ∧ w'.cell? ⟨mb, 2, none⟩ = some (.slice (some ⟨b4, o4, none⟩) l c3) ∧ w'.cell? ⟨b1, o1 + i * 2, none⟩ = some (.bool nf) ∧ w'.cell? ⟨b1, o1 + i * 2 + 1, none⟩ = some (.slice adf xf.length qf) ∧ w'.cell? ⟨b4, o4 + i * 2, none⟩ = some (.bool nm) ∧ w'.cell? ⟨b4, o4 + i * 2 + 1, none⟩ = some (.slice adm xm.length qm)) 12 (by kernel_rfl) ?_
      obtain ⟨D1, hD⟩ : ∃ D1, wr.drew = D1 := ⟨_, rfl⟩
      have GB : Hid (Below wr.heap.size wr D1) := by unfold Hid; rw [← hD]; exact (Below.refl _ _).drew
      rw [hD]
      clear hD
      have ld0 := GB.out.size
      refine wpAnyT_take (i := 0) (oi := { dst := some 68, op := Op.fieldAddr 24 (Operand.tmp 2) 2, type := 0, pos := "plain.go:122", after := #[], guard := none }) (v := (.pointer (some ⟨w.heap.size, 2, none⟩))) rfl (by kernel_rfl) (fun _ _ _ h => h) (Or.inl ⟨by rfl, ?_⟩) (KB.out _ GB.out) ?_
      · intro w hSw
        (try dsimp only at hSw)
        go_simp
      simp only [Act.put, List.setIfInBounds_toArray, List.set_cons_zero, List.set_cons_succ]
      refine wpAnyT_take (i := 1) (oi := { dst := some 69, op := Op.load 22 (Operand.tmp 68), type := 22, pos := "plain.go:122", after := #[{ on := 0, ground := Ground.data }], guard := none }) (v := (.slice (some ⟨b1, o1, none⟩) l cap)) rfl (by kernel_rfl) (fun _ _ _ h => h) (Or.inl ⟨by rfl, ?_⟩) (KB.out _ GB.out) ?_
      · intro w hSw
        (try dsimp only at hSw)
        go_simp
      simp only [Act.put, List.setIfInBounds_toArray, List.set_cons_zero, List.set_cons_succ]
      refine wpAnyT_take (i := 2) (oi := { dst := some 70, op := Op.move (Operand.tmp 7), type := 3, pos := "plain.go:122", after := #[], guard := none }) (v := (.int .i64 (i : Int))) rfl (by kernel_rfl) (fun _ _ _ h => h) (Or.inl ⟨by rfl, ?_⟩) (KB.out _ GB.out) ?_
      · intro w hSw
        (try dsimp only at hSw)
        go_simp
      simp only [Act.put, List.setIfInBounds_toArray, List.set_cons_zero, List.set_cons_succ]
      refine wpAnyT_take (i := 3) (oi := { dst := some 71, op := Op.indexAddr 22 (Operand.tmp 69) (Operand.tmp 70), type := 0, pos := "plain.go:122", after := #[{ on := 1, ground := Ground.data }, { on := 2, ground := Ground.data }], guard := none }) (v := (.pointer (some ⟨b1, o1 + i * 2, none⟩))) rfl (by kernel_rfl) (fun _ _ _ h => h) (Or.inl ⟨by rfl, ?_⟩) (KB.out _ GB.out) ?_
      · intro w hSw
        (try dsimp only at hSw)
        go_simp
      simp only [Act.put, List.setIfInBounds_toArray, List.set_cons_zero, List.set_cons_succ]
      refine wpAnyT_take (i := 4) (oi := { dst := some 72, op := Op.load 36 (Operand.tmp 71), type := 36, pos := "plain.go:122", after := #[{ on := 3, ground := Ground.data }], guard := none }) (v := (.agg #[.bool nf, .slice adf xf.length qf])) rfl (by kernel_rfl) (fun _ _ _ h => h) (Or.inl ⟨by rfl, ?_⟩) (KB.out _ GB.out) ?_
      · intro w hSw
        (try dsimp only at hSw)
        go_simp
      simp only [Act.put, List.setIfInBounds_toArray, List.set_cons_zero, List.set_cons_succ]
      refine wpAnyT_take (i := 5) (oi := { dst := some 73, op := Op.fieldAddr 24 (Operand.tmp 5) 2, type := 0, pos := "plain.go:122", after := #[], guard := none }) (v := (.pointer (some ⟨mb, 2, none⟩))) rfl (by kernel_rfl) (fun _ _ _ h => h) (Or.inl ⟨by rfl, ?_⟩) (KB.out _ GB.out) ?_
      · intro w hSw
        (try dsimp only at hSw)
        go_simp
      simp only [Act.put, List.setIfInBounds_toArray, List.set_cons_zero, List.set_cons_succ]
      refine wpAnyT_take (i := 6) (oi := { dst := some 74, op := Op.load 22 (Operand.tmp 73), type := 22, pos := "plain.go:122", after := #[{ on := 5, ground := Ground.data }], guard := none }) (v := (.slice (some ⟨b4, o4, none⟩) l c3)) rfl (by kernel_rfl) (fun _ _ _ h => h) (Or.inl ⟨by rfl, ?_⟩) (KB.out _ GB.out) ?_
      · intro w hSw
        (try dsimp only at hSw)
        go_simp
      simp only [Act.put, List.setIfInBounds_toArray, List.set_cons_zero, List.set_cons_succ]
      refine wpAnyT_take (i := 7) (oi := { dst := some 75, op := Op.move (Operand.tmp 7), type := 3, pos := "plain.go:122", after := #[], guard := none }) (v := (.int .i64 (i : Int))) rfl (by kernel_rfl) (fun _ _ _ h => h) (Or.inl ⟨by rfl, ?_⟩) (KB.out _ GB.out) ?_
      · intro w hSw
        (try dsimp only at hSw)
        go_simp
      simp only [Act.put, List.setIfInBounds_toArray, List.set_cons_zero, List.set_cons_succ]
      refine wpAnyT_take (i := 8) (oi := { dst := some 76, op := Op.indexAddr 22 (Operand.tmp 74) (Operand.tmp 75), type := 0, pos := "plain.go:122", after := #[{ on := 6, ground := Ground.data }, { on := 7, ground := Ground.data }], guard := none }) (v := (.pointer (some ⟨b4, o4 + i * 2, none⟩))) rfl (by kernel_rfl) (fun _ _ _ h => h) (Or.inl ⟨by rfl, ?_⟩) (KB.out _ GB.out) ?_
      · intro w hSw
        (try dsimp only at hSw)
        go_simp
      simp only [Act.put, List.setIfInBounds_toArray, List.set_cons_zero, List.set_cons_succ]
      refine wpAnyT_take (i := 9) (oi := { dst := some 77, op := Op.load 36 (Operand.tmp 76), type := 36, pos := "plain.go:122", after := #[{ on := 8, ground := Ground.data }], guard := none }) (v := (.agg #[.bool nm, .slice adm xm.length qm])) rfl (by kernel_rfl) (fun _ _ _ h => h) (Or.inl ⟨by rfl, ?_⟩) (KB.out _ GB.out) ?_
      · intro w hSw
        (try dsimp only at hSw)
        go_simp
      simp only [Act.put, List.setIfInBounds_toArray, List.set_cons_zero, List.set_cons_succ]
      refine wpAnyT_two (i := 10) (j := 11) (oi := { dst := some 78, op := Op.call { callee := Callee.value (Operand.func 14), args := #[Operand.tmp 72, Operand.tmp 77], argTypes := #[36, 36] }, type := 36, pos := "plain.go:122", after := #[{ on := 4, ground := Ground.data }, { on := 9, ground := Ground.data }], guard := none }) (oj := { dst := some 8, op := Op.alloc 36, type := 0, pos := "plain.go:122", after := #[], guard := none }) (by kernel_rfl) rfl rfl (fun K hK => ?_) (fun K hK => ?_)
      · skip
        go_simp
        go_at_call 14
        refine (rsub_z (ZF.out.now GB.out) (ZE.out.now GB.out) (by omega) (by omega)).mono ?_
        rintro e w2 ⟨r8, rfl, m8, b⟩
        have lz2 := (show Below _ _ _ from b).size
        replace GB := hid (below_step GB.out b)
        have ZD := hid m8.zi
        obtain ⟨nd, xd, ad, cd, rfl⟩ := m8.parts
        clear m8
        clear b
        refine hK.out _ _ (fun _ => KB.out _ GB.out) ?_
        clear hK
        refine wpAnyT_one (i := 11) (o := { dst := some 8, op := Op.alloc 36, type := 0, pos := "plain.go:122", after := #[], guard := none }) (by kernel_rfl) rfl (fun K hK => ?_)
        go_simp
        obtain ⟨V3, hW⟩ : ∃ V3, w2.alloc zbox = V3 := ⟨_, rfl⟩
        obtain ⟨b, sz3⟩ := alo1 w2 zbox
        rw [hW] at b sz3
        replace GB := hid (below_step GB.out b)
        have PN : Hid (Duo V3 w2.heap.size (.bool false) (.slice none 0 0)) := by unfold Hid; rw [← hW]; exact Duo.new _ _ _
        have BN : Hid (wr.heap.size ≤ w2.heap.size) := by unfold Hid; omega
        replace ZD := hid (ZD.out.now b)
        rw [hW]
        clear hW b
        refine hK.out _ _ (fun _ => KB.out _ GB.out) ?_
        clear hK
        try simp only [Act.put]
        refine wpAnyT_one (i := 12) (o := { dst := none, op := Op.store 36 (Operand.tmp 8) (Operand.tmp 78), type := 0, pos := "plain.go:122", after := #[{ on := 11, ground := Ground.data }, { on := 10, ground := Ground.data }, { on := 10, ground := Ground.chain }, { on := 0, ground := Ground.phase }, { on := 1, ground := Ground.phase }, { on := 2, ground := Ground.phase }, { on := 3, ground := Ground.phase }, { on := 4, ground := Ground.phase }, { on := 5, ground := Ground.phase }, { on := 6, ground := Ground.phase }, { on := 7, ground := Ground.phase }, { on := 8, ground := Ground.phase }, { on := 9, ground := Ground.phase }, { on := 10, ground := Ground.phase }, { on := 11, ground := Ground.phase }], guard := none }) (by kernel_rfl) rfl (fun K hK => ?_)
        have r0 := PN.out.c0
        have r1 := PN.out.c1
        have f0 := PN.out.fz 0
        have f1 := PN.out.fz 1
        go_simp
        clear r0 r1 f0 f1
        obtain ⟨V, hV⟩ : ∃ V, ((V3.setCell ⟨w2.heap.size, 0, none⟩ (.bool nd)).setCell ⟨w2.heap.size, 1, none⟩ (.slice ad xd.length cd)) = V := ⟨_, rfl⟩
        have GE : Hid (Below wr.heap.size wr V) := by unfold Hid; rw [← hV]; exact bset (bset GB.out BN.out) BN.out
        have PF : Hid (Duo V w2.heap.size (.bool nd) (.slice ad xd.length cd)) := by unfold Hid; rw [← hV]; exact PN.out.set _ _
        have ZV : Hid (Zi V (.agg #[.bool nd, .slice ad xd.length cd]) (z - z % (p : Int)) (max 1048576 1 + 1)) := by unfold Hid; rw [← hV]; exact ZD.out.wk (PN.out.wk _ _)
        rw [hV]
        clear hV PN ZD GB KB BN
        refine hK.out _ _ (fun h => absurd h (by decide)) ?_
        clear hK
        try simp only [Act.put]
        refine wpAnyT_done (by kernel_rfl) ?_ _
        obtain ⟨Y, hY⟩ : ∃ Y, V.alloc (.cells #[.bool nd, .slice ad xd.length cd] 36) = Y := ⟨_, rfl⟩
        obtain ⟨bY, szY⟩ := alo12 V (.cells #[.bool nd, .slice ad xd.length cd] 36)
        rw [hY] at bY szY
        have DY : Cel Y V.heap.size 36 [.bool nd, .slice ad xd.length cd] := by rw [← hY]; exact Cel.new V _ _
        have ZLY : Hid (Zl Y (.slice (some ⟨V.heap.size, 0, none⟩) 1 1) [z - z % (p : Int)] (max 1048576 1 + 1)) := by
          refine ⟨_, 1, rfl, by simp, by simp, .inr ⟨V.heap.size, 0, rfl, DY.blk, fun j hj => ?_⟩⟩
          obtain rfl : j = 0 := by simp at hj; omega
          exact ⟨_, _, DY.at (i := 0) rfl, DY.at (i := 1) rfl, ZV.out.now bY⟩
        have HZR := hid (zero12_yes ZLY.out (by omega) (by omega) hp2 (fun z' hz' => by simp at hz'; rw [hz']; exact sub_res z p))
        have x0 := PF.out.c0
        have x1 := PF.out.c1
        have GY := hid (below_step (below_step G.out GE.out) bY)
        have EY := hid hY
        clear bY szY hY DY ZLY PF ZV GE k0 k1 k2 k3 ZF ZE y2 u2 G
        go_wp2_with fail
        rw [EY.out]
        refine HZR.out.mono ?_
        rintro e w7 ⟨rfl, b7⟩
        have HN1 : Hid (MrH X l (l - (i + 1)) (.int .i64 ((i + 1 : Nat) : Int)) w7) := ⟨i + 1, rfl, by omega, rfl, below_step GY.out b7⟩
        clear HZR b7 x0 x1 GY EY
        go_wp2_with fail
        go_roundg (l - (i + 1))
        case rel => exact HN1.out
        case measure => exact HMM.out
      · skip
        go_simp
        obtain ⟨V4, hW⟩ : ∃ V4, D1.alloc zbox = V4 := ⟨_, rfl⟩
        obtain ⟨b, sz4⟩ := alo1 D1 zbox
        rw [hW] at b sz4
        replace GB := hid (below_step GB.out b)
        have PN : Hid (Duo V4 D1.heap.size (.bool false) (.slice none 0 0)) := by unfold Hid; rw [← hW]; exact Duo.new _ _ _
        have BN : Hid (wr.heap.size ≤ D1.heap.size) := by unfold Hid; omega
        rw [hW]
        clear hW b
        refine hK.out _ _ (fun _ => KB.out _ GB.out) ?_
        clear hK
        try simp only [Act.put]
        refine wpAnyT_one (i := 10) (o := { dst := some 78, op := Op.call { callee := Callee.value (Operand.func 14), args := #[Operand.tmp 72, Operand.tmp 77], argTypes := #[36, 36] }, type := 36, pos := "plain.go:122", after := #[{ on := 4, ground := Ground.data }, { on := 9, ground := Ground.data }], guard := none }) (by kernel_rfl) rfl (fun K hK => ?_)
        go_simp
        go_at_call 14
        refine (rsub_z (ZF.out.now GB.out) (ZE.out.now GB.out) (by omega) (by omega)).mono ?_
        rintro e w5 ⟨r8, rfl, m8, b⟩
        have lz5 := (show Below _ _ _ from b).size
        replace GB := hid (below_step GB.out b)
        have ZD := hid m8.zi
        obtain ⟨nd, xd, ad, cd, rfl⟩ := m8.parts
        clear m8
        replace PN := hid (PN.out.step b)
        clear b
        refine hK.out _ _ (fun _ => KB.out _ GB.out) ?_
        clear hK
        refine wpAnyT_one (i := 12) (o := { dst := none, op := Op.store 36 (Operand.tmp 8) (Operand.tmp 78), type := 0, pos := "plain.go:122", after := #[{ on := 11, ground := Ground.data }, { on := 10, ground := Ground.data }, { on := 10, ground := Ground.chain }, { on := 0, ground := Ground.phase }, { on := 1, ground := Ground.phase }, { on := 2, ground := Ground.phase }, { on := 3, ground := Ground.phase }, { on := 4, ground := Ground.phase }, { on := 5, ground := Ground.phase }, { on := 6, ground := Ground.phase }, { on := 7, ground := Ground.phase }, { on := 8, ground := Ground.phase }, { on := 9, ground := Ground.phase }, { on := 10, ground := Ground.phase }, { on := 11, ground := Ground.phase }], guard := none }) (by kernel_rfl) rfl (fun K hK => ?_)
        have r0 := PN.out.c0
        have r1 := PN.out.c1
        have f0 := PN.out.fz 0
        have f1 := PN.out.fz 1
        go_simp
        clear r0 r1 f0 f1
        obtain ⟨V, hV⟩ : ∃ V, ((w5.setCell ⟨D1.heap.size, 0, none⟩ (.bool nd)).setCell ⟨D1.heap.size, 1, none⟩ (.slice ad xd.length cd)) = V := ⟨_, rfl⟩
        have GE : Hid (Below wr.heap.size wr V) := by unfold Hid; rw [← hV]; exact bset (bset GB.out BN.out) BN.out
        have PF : Hid (Duo V D1.heap.size (.bool nd) (.slice ad xd.length cd)) := by unfold Hid; rw [← hV]; exact PN.out.set _ _
        have ZV : Hid (Zi V (.agg #[.bool nd, .slice ad xd.length cd]) (z - z % (p : Int)) (max 1048576 1 + 1)) := by unfold Hid; rw [← hV]; exact ZD.out.wk (PN.out.wk _ _)
        rw [hV]
        clear hV PN ZD GB KB BN
        refine hK.out _ _ (fun h => absurd h (by decide)) ?_
        clear hK
        try simp only [Act.put]
        refine wpAnyT_done (by kernel_rfl) ?_ _
        obtain ⟨Y, hY⟩ : ∃ Y, V.alloc (.cells #[.bool nd, .slice ad xd.length cd] 36) = Y := ⟨_, rfl⟩
        obtain ⟨bY, szY⟩ := alo12 V (.cells #[.bool nd, .slice ad xd.length cd] 36)
        rw [hY] at bY szY
        have DY : Cel Y V.heap.size 36 [.bool nd, .slice ad xd.length cd] := by rw [← hY]; exact Cel.new V _ _
        have ZLY : Hid (Zl Y (.slice (some ⟨V.heap.size, 0, none⟩) 1 1) [z - z % (p : Int)] (max 1048576 1 + 1)) := by
          refine ⟨_, 1, rfl, by simp, by simp, .inr ⟨V.heap.size, 0, rfl, DY.blk, fun j hj => ?_⟩⟩
          obtain rfl : j = 0 := by simp at hj; omega
          exact ⟨_, _, DY.at (i := 0) rfl, DY.at (i := 1) rfl, ZV.out.now bY⟩
        have HZR := hid (zero12_yes ZLY.out (by omega) (by omega) hp2 (fun z' hz' => by simp at hz'; rw [hz']; exact sub_res z p))
        have x0 := PF.out.c0
        have x1 := PF.out.c1
        have GY := hid (below_step (below_step G.out GE.out) bY)
        have EY := hid hY
        clear bY szY hY DY ZLY PF ZV GE k0 k1 k2 k3 ZF ZE y2 u2 G
        go_wp2_with fail
        rw [EY.out]
        refine HZR.out.mono ?_
        rintro e w7 ⟨rfl, b7⟩
        have HN1 : Hid (MrH X l (l - (i + 1)) (.int .i64 ((i + 1 : Nat) : Int)) w7) := ⟨i + 1, rfl, by omega, rfl, below_step GY.out b7⟩
        clear HZR b7 x0 x1 GY EY
        go_wp2_with fail
        go_roundg (l - (i + 1))
        case rel => exact HN1.out
        case measure => exact HMM.out
    · have hlt' : ¬ (i : Int) < (l : Int) := by omega
      have FIN := hid (below_step GX.out G.out)
      clear HG G
      go_wp2
      go_ret
      exact ⟨rfl, FIN.out⟩
theorem modpRefuses_any {w : World} {v : Value} {r c : Int} {l p : Nat} {zs : List Int} (h : Raw w v r c l zs) :
    Calls Tryz.prog 3 #[v, .int .u64 (p : Int)] w fun e w' => e = .returned (.bool true) ∧ Below w.heap.size w w' := by
  have h0 := h
  obtain ⟨a, cap, ps, rfl, h2, h3, h4, h5⟩ := h
  by_cases hs : Snd r c l
  · obtain ⟨r', rfl⟩ : ∃ r' : Nat, r = (r' : Int) := ⟨r.toNat, by have := hs.1; omega⟩
    obtain ⟨c', rfl⟩ : ∃ c' : Nat, c = (c' : Int) := ⟨c.toNat, by have := hs.2.2.1; omega⟩
    have hm := h0.mx hs
    rcases Bool.eq_false_or_eq_true (gdB p) with q | q
    · exact modpRefuses_ok q hm
    · exact modpRefuses_no h5 hs q (fun w' hb => hm.chk w' hb)
  · exact modpRefuses_un h5 hs (fun w' hb => check_no hs)
end Go.Proofs.YtonmlmdnjjafhaaGreat
