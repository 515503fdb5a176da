/-
  Resid0: the walk of ZintResidues where m is 0.
-/
import Derived.Test.YtgdlecghpbckpaaDoorQZDivs
namespace Go.Proofs.YtgdlecghpbckpaaDoor
open Go.RowKit
set_option linter.unusedVariables false

/-- Behind a statement whose box was made anywhere in it. -/
def MetZ (W wx : World) (s1 s2 : Value) (z : Int) (k : Nat) : Prop :=
  ∃ bk n, ∃ x : List Int, ∃ a c, s1 = .pointer (some ⟨bk, 0, none⟩) ∧ s2 = .int .i64 0 ∧ Below W.heap.size W wx ∧ W.heap.size ≤ bk ∧ bk < wx.heap.size ∧ Duo wx bk (.bool n) (.slice a x.length c) ∧ Zm W.heap.size wx (.agg #[.bool n, .slice a x.length c]) z k
theorem Duo.lt {w : World} {b : Nat} {x y : Value} (h : Duo w b x y) : b < w.heap.size := (Array.getElem?_eq_some_iff.1 (show w.heap[b]? = _ from h)).1
theorem duo_call {w0 w' : World} (b : Below (w0.alloc zbox).heap.size (w0.alloc zbox) w') : Duo w' w0.heap.size (.bool false) (.slice none 0 0) := (Duo.new w0 _ _).below b (by simp)
theorem duo_call_d {w0 w' : World} (b : Below (w0.alloc zbox).drew.heap.size (w0.alloc zbox).drew w') : Duo w' w0.heap.size (.bool false) (.slice none 0 0) := (Duo.new w0 _ _).drew.below b (by simp [World.drew])
theorem met_set {W w2 : World} {bk B : Nat} {n : Bool} {t : List Int} {a : Option Addr} {c k : Nat} {z : Int} (D : Duo w2 bk (.bool false) (.slice none 0 0)) (M : Zm B w2 (.agg #[.bool n, .slice a t.length c]) z k) (HP : Below W.heap.size W w2) (h1 : W.heap.size ≤ bk) (h2 : bk < B) :
    MetZ W ((w2.setCell ⟨bk, 0, none⟩ (.bool n)).setCell ⟨bk, 1, none⟩ (.slice a t.length c)) (.pointer (some ⟨bk, 0, none⟩)) (.int .i64 0) z k :=
  ⟨bk, n, t, a, c, rfl, rfl, bset (bset HP h1) h1, h1, (D.set _ _).lt, D.set _ _, ((M.setLow h2 0 _).setLow h2 1 _).mono (by omega)⟩
theorem met_new {W w2 : World} {B : Nat} {n : Bool} {t : List Int} {a : Option Addr} {c k : Nat} {z : Int} (M : Zm B w2 (.agg #[.bool n, .slice a t.length c]) z k) (HP : Below W.heap.size W w2) (h2 : W.heap.size ≤ B) :
    MetZ W (w2.alloc (duo (.bool n) (.slice a t.length c))) (.pointer (some ⟨w2.heap.size, 0, none⟩)) (.int .i64 0) z k := by
  have k := (Below.refl w2.heap.size w2).alloc (Nat.le_refl _) (duo (.bool n) (.slice a t.length c))
  exact ⟨w2.heap.size, n, t, a, c, rfl, rfl, below_step HP k, HP.size, by simp, Duo.new w2 _ _, (M.now k).mono h2⟩
theorem mod_in (A : Int) {M : Int} (h : M ≠ 0) : 0 ≤ A % M ∧ A % M < (M.natAbs : Int) := (divs (A := A) h).e2
theorem res_mul (A B M : Int) : (A * B) % M = ((A % M) * (B % M)) % M := Int.mul_emod A B M
theorem res_add (A B M : Int) : (A + B) % M = (A % M + B % M) % (-M) := by rw [Int.emod_neg]; exact Int.add_emod A B M
theorem res_more (A B M : Int) : (B * M + A) % M = A % M := by rw [Int.add_comm]; exact Int.add_mul_emod_self_right A B M
theorem res_sym {A M : Int} (h : M ≠ 0) {R : Int} (hs : (cmpI (A % M + A % M) (M.natAbs : Int) ≤ 0 ∧ R = A % M) ∨ (¬ cmpI (A % M + A % M) (M.natAbs : Int) ≤ 0 ∧ R = A % M - (M.natAbs : Int))) : symv A M = R := by
  have h1 := mod_in A h
  have h2 := cmp_cases (A % M + A % M) (M.natAbs : Int)
  unfold symv
  split <;> omega

set_option maxHeartbeats 12800000 in
set_option maxRecDepth 100000 in
theorem zintResidues_zero {w : World} {va vb vc : Value} {A B M : Int} (ha : Zi w va A 1048576) (hb : Zi w vb B 1048576) (hm : Zi w vc M 1048576) (hT : Sg w) (hM : M = 0) :
    Calls Tryd.prog 6 #[va, vb, vc] w fun e w' => e = .returned (.bool true) ∧ Below w.heap.size w w' := by
  have q4 : ((4 : Int) == 4) = true := rfl
  have q0 : ((0 : Int) == 0) = true := rfl
  have HM0 := hid hM
  clear hM
  have ha0 := hid ha
  obtain ⟨na, xa, aa, ca, rfl, -, -, -⟩ := ha
  have hb0 := hid hb
  obtain ⟨nb, xb, ab, cb, rfl, -, -, -⟩ := hb
  have hm0 := hid hm
  obtain ⟨nm, xm, am, cm, rfl, -, -, -⟩ := hm
  obtain ⟨W0, hW0⟩ : ∃ W0, ((w.alloc (duo (.bool na) (.slice aa xa.length ca))).alloc (duo (.bool nb) (.slice ab xb.length cb))).alloc (duo (.bool nm) (.slice am xm.length cm)) = W0 := ⟨_, rfl⟩
  obtain ⟨b0, sz0⟩ := alloc3 w (duo (.bool na) (.slice aa xa.length ca)) (duo (.bool nb) (.slice ab xb.length cb)) (duo (.bool nm) (.slice am xm.length cm))
  rw [hW0] at b0 sz0
  have p : Duo W0 (w.heap.size) (.bool na) (.slice aa xa.length ca) := by rw [← hW0]; exact duo_late (duo_late (duo_at (by simp)) _) _
  have Ka : Hid (∀ w', Below W0.heap.size W0 w' → w'.cell? ⟨w.heap.size, 0, none⟩ = some (.bool na) ∧ w'.cell? ⟨w.heap.size, 1, none⟩ = some (.slice aa xa.length ca)) := fun w' h => ⟨(p.below h (by omega)).c0, (p.below h (by omega)).c1⟩
  clear p
  have Za := hid (ha0.out.now b0)
  have p : Duo W0 (w.heap.size + 1) (.bool nb) (.slice ab xb.length cb) := by rw [← hW0]; exact duo_late (duo_at (by simp)) _
  have Kb : Hid (∀ w', Below W0.heap.size W0 w' → w'.cell? ⟨w.heap.size + 1, 0, none⟩ = some (.bool nb) ∧ w'.cell? ⟨w.heap.size + 1, 1, none⟩ = some (.slice ab xb.length cb)) := fun w' h => ⟨(p.below h (by omega)).c0, (p.below h (by omega)).c1⟩
  clear p
  have Zb := hid (hb0.out.now b0)
  have p : Duo W0 (w.heap.size + 1 + 1) (.bool nm) (.slice am xm.length cm) := by rw [← hW0]; exact duo_at (by simp)
  have Km : Hid (∀ w', Below W0.heap.size W0 w' → w'.cell? ⟨w.heap.size + 1 + 1, 0, none⟩ = some (.bool nm) ∧ w'.cell? ⟨w.heap.size + 1 + 1, 1, none⟩ = some (.slice am xm.length cm)) := fun w' h => ⟨(p.below h (by omega)).c0, (p.below h (by omega)).c1⟩
  clear p
  have Zm := hid (hm0.out.now b0)
  have HT := hid (hT.now b0)
  have G := hid b0
  have EW := hid hW0
  have lz0 := b0.size
  clear b0 hW0 ha0 hb0 hm0 hT
  go_enter Tryd.func6, Tryd.ntmps6
  go_wp2_with fail
  rw [EW.out]
  clear EW
  refine (awake5_any HT.out).mono ?_
  rintro e wA ⟨rfl, bA⟩
  replace Za := hid (Za.out.now bA)
  replace Zb := hid (Zb.out.now bA)
  replace Zm := hid (Zm.out.now bA)
  replace G := hid (below_step G.out bA)
  have lz1 := (show Below _ _ _ from bA).size
  replace Ka : Hid (∀ w', Below wA.heap.size wA w' → w'.cell? ⟨w.heap.size, 0, none⟩ = some (.bool na) ∧ w'.cell? ⟨w.heap.size, 1, none⟩ = some (.slice aa xa.length ca)) := fun w' h => Ka.out w' (below_step bA h)
  replace Kb : Hid (∀ w', Below wA.heap.size wA w' → w'.cell? ⟨w.heap.size + 1, 0, none⟩ = some (.bool nb) ∧ w'.cell? ⟨w.heap.size + 1, 1, none⟩ = some (.slice ab xb.length cb)) := fun w' h => Kb.out w' (below_step bA h)
  replace Km : Hid (∀ w', Below wA.heap.size wA w' → w'.cell? ⟨w.heap.size + 1 + 1, 0, none⟩ = some (.bool nm) ∧ w'.cell? ⟨w.heap.size + 1 + 1, 1, none⟩ = some (.slice am xm.length cm)) := fun w' h => Km.out w' (below_step bA h)
  clear bA HT
  obtain ⟨ca0, ca1⟩ := Ka.out wA (Below.refl _ _)
  obtain ⟨cm0, cm1⟩ := Km.out wA (Below.refl _ _)
  go_wp2_with fail
  clear ca0 ca1 cm0 cm1
  refine (mod_none Za.out Zm.out HM0.out).mono ?_
  rintro e w1 ⟨r0, rfl, m0, b⟩
  obtain ⟨nx, xx, ax, cx, rfl, -, -, -, -, -⟩ := id m0
  obtain ⟨W1, hW⟩ : ∃ W1, w1.alloc (duo (.bool nx) (.slice ax xx.length cx)) = W1 := ⟨_, rfl⟩
  obtain ⟨kW, sz1⟩ := alloc1 w1 (duo (.bool nx) (.slice ax xx.length cx))
  rw [hW] at kW sz1
  replace b := below_step b kW
  replace Za := hid (Za.out.now b)
  replace Zb := hid (Zb.out.now b)
  replace Zm := hid (Zm.out.now b)
  replace G := hid (below_step G.out b)
  have lz2 := (show Below _ _ _ from b).size
  replace Ka : Hid (∀ w', Below W1.heap.size W1 w' → w'.cell? ⟨w.heap.size, 0, none⟩ = some (.bool na) ∧ w'.cell? ⟨w.heap.size, 1, none⟩ = some (.slice aa xa.length ca)) := fun w' h => Ka.out w' (below_step b h)
  replace Kb : Hid (∀ w', Below W1.heap.size W1 w' → w'.cell? ⟨w.heap.size + 1, 0, none⟩ = some (.bool nb) ∧ w'.cell? ⟨w.heap.size + 1, 1, none⟩ = some (.slice ab xb.length cb)) := fun w' h => Kb.out w' (below_step b h)
  replace Km : Hid (∀ w', Below W1.heap.size W1 w' → w'.cell? ⟨w.heap.size + 1 + 1, 0, none⟩ = some (.bool nm) ∧ w'.cell? ⟨w.heap.size + 1 + 1, 1, none⟩ = some (.slice am xm.length cm)) := fun w' h => Km.out w' (below_step b h)
  have p : Duo W1 (w1.heap.size) (.bool nx) (.slice ax xx.length cx) := by rw [← hW]; exact duo_at (by simp)
  have Kx : Hid (∀ w', Below W1.heap.size W1 w' → w'.cell? ⟨w1.heap.size, 0, none⟩ = some (.bool nx) ∧ w'.cell? ⟨w1.heap.size, 1, none⟩ = some (.slice ax xx.length cx)) := fun w' h => ⟨(p.below h (by omega)).c0, (p.below h (by omega)).c1⟩
  clear p
  have Zx := hid (m0.now kW)
  clear b kW m0
  obtain ⟨ca0, ca1⟩ := Ka.out W1 (Below.refl _ _)
  obtain ⟨cm0, cm1⟩ := Km.out W1 (Below.refl _ _)
  rw [← hW] at ca0 ca1 cm0 cm1
  have EW := hid hW
  clear hW
  go_wp2_with fail
  rw [EW.out]
  clear EW
  clear ca0 ca1 cm0 cm1
  refine (sym_none Za.out Zm.out HM0.out (by decide) (by decide)).mono ?_
  rintro e w2 ⟨r0, rfl, m0, b⟩
  obtain ⟨nsv, xsv, asv, csv, rfl, -, -, -, -, -⟩ := id m0
  obtain ⟨W2, hW⟩ : ∃ W2, w2.alloc (duo (.bool nsv) (.slice asv xsv.length csv)) = W2 := ⟨_, rfl⟩
  obtain ⟨kW, sz2⟩ := alloc1 w2 (duo (.bool nsv) (.slice asv xsv.length csv))
  rw [hW] at kW sz2
  replace b := below_step b kW
  replace Za := hid (Za.out.now b)
  replace Zb := hid (Zb.out.now b)
  replace Zm := hid (Zm.out.now b)
  replace Zx := hid (Zx.out.now b)
  replace G := hid (below_step G.out b)
  have lz3 := (show Below _ _ _ from b).size
  replace Ka : Hid (∀ w', Below W2.heap.size W2 w' → w'.cell? ⟨w.heap.size, 0, none⟩ = some (.bool na) ∧ w'.cell? ⟨w.heap.size, 1, none⟩ = some (.slice aa xa.length ca)) := fun w' h => Ka.out w' (below_step b h)
  replace Kb : Hid (∀ w', Below W2.heap.size W2 w' → w'.cell? ⟨w.heap.size + 1, 0, none⟩ = some (.bool nb) ∧ w'.cell? ⟨w.heap.size + 1, 1, none⟩ = some (.slice ab xb.length cb)) := fun w' h => Kb.out w' (below_step b h)
  replace Km : Hid (∀ w', Below W2.heap.size W2 w' → w'.cell? ⟨w.heap.size + 1 + 1, 0, none⟩ = some (.bool nm) ∧ w'.cell? ⟨w.heap.size + 1 + 1, 1, none⟩ = some (.slice am xm.length cm)) := fun w' h => Km.out w' (below_step b h)
  replace Kx : Hid (∀ w', Below W2.heap.size W2 w' → w'.cell? ⟨w1.heap.size, 0, none⟩ = some (.bool nx) ∧ w'.cell? ⟨w1.heap.size, 1, none⟩ = some (.slice ax xx.length cx)) := fun w' h => Kx.out w' (below_step b h)
  have p : Duo W2 (w2.heap.size) (.bool nsv) (.slice asv xsv.length csv) := by rw [← hW]; exact duo_at (by simp)
  have Ksv : Hid (∀ w', Below W2.heap.size W2 w' → w'.cell? ⟨w2.heap.size, 0, none⟩ = some (.bool nsv) ∧ w'.cell? ⟨w2.heap.size, 1, none⟩ = some (.slice asv xsv.length csv)) := fun w' h => ⟨(p.below h (by omega)).c0, (p.below h (by omega)).c1⟩
  clear p
  have Zsv := hid (m0.now kW)
  clear b kW m0
  obtain ⟨cm0, cm1⟩ := Km.out W2 (Below.refl _ _)
  rw [← hW] at cm0 cm1
  have EW := hid hW
  clear hW
  go_wp2_with fail
  rw [EW.out]
  clear EW
  clear cm0 cm1
  refine (int_as (sign_z (Zm.out)) (show cmpI M 0 = 0 by rw [HM0.out]; exact cmpI_self 0)).mono ?_
  rintro e w3 ⟨rfl, b⟩
  replace Za := hid (Za.out.now b)
  replace Zb := hid (Zb.out.now b)
  replace Zm := hid (Zm.out.now b)
  replace Zx := hid (Zx.out.now b)
  replace Zsv := hid (Zsv.out.now b)
  replace G := hid (below_step G.out b)
  have lz4 := (show Below _ _ _ from b).size
  replace Ka : Hid (∀ w', Below w3.heap.size w3 w' → w'.cell? ⟨w.heap.size, 0, none⟩ = some (.bool na) ∧ w'.cell? ⟨w.heap.size, 1, none⟩ = some (.slice aa xa.length ca)) := fun w' h => Ka.out w' (below_step b h)
  replace Kb : Hid (∀ w', Below w3.heap.size w3 w' → w'.cell? ⟨w.heap.size + 1, 0, none⟩ = some (.bool nb) ∧ w'.cell? ⟨w.heap.size + 1, 1, none⟩ = some (.slice ab xb.length cb)) := fun w' h => Kb.out w' (below_step b h)
  replace Km : Hid (∀ w', Below w3.heap.size w3 w' → w'.cell? ⟨w.heap.size + 1 + 1, 0, none⟩ = some (.bool nm) ∧ w'.cell? ⟨w.heap.size + 1 + 1, 1, none⟩ = some (.slice am xm.length cm)) := fun w' h => Km.out w' (below_step b h)
  replace Kx : Hid (∀ w', Below w3.heap.size w3 w' → w'.cell? ⟨w1.heap.size, 0, none⟩ = some (.bool nx) ∧ w'.cell? ⟨w1.heap.size, 1, none⟩ = some (.slice ax xx.length cx)) := fun w' h => Kx.out w' (below_step b h)
  replace Ksv : Hid (∀ w', Below w3.heap.size w3 w' → w'.cell? ⟨w2.heap.size, 0, none⟩ = some (.bool nsv) ∧ w'.cell? ⟨w2.heap.size, 1, none⟩ = some (.slice asv xsv.length csv)) := fun w' h => Ksv.out w' (below_step b h)
  clear b
  go_wp2
  go_ret
  exact ⟨rfl, G.out⟩
end Go.Proofs.YtgdlecghpbckpaaDoor
