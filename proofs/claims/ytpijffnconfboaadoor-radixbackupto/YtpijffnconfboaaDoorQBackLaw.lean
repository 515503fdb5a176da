/-
  BackLaw: the walk of RadixBack.
-/
import Derived.Test.YtpijffnconfboaaDoorQBackPure
namespace Go.Proofs.YtpijffnconfboaaDoor
open Go.RowKit
set_option linter.unusedVariables false

set_option maxRecDepth 100000 in
set_option maxHeartbeats 12800000 in
theorem radixBack_good {w : World} {va : Value} {xs : List Int} {B : Nat} (ha : Sl w.heap.size w va xs) (lx : xs.length ≤ 1048576) (hT : Sg w) (hB : 2 ≤ B) (hB2 : B ≤ 36) :
    Calls Tryd.prog 6 #[va, .int .i64 (B : Int)] w fun e w' => e = .returned (.bool true) ∧ Below w.heap.size w w' := by
  have HT := hid hT
  have HA := hid ha
  have hx := ha.1
  have z1 := txt_size hB hx lx
  have z2 := txt_size (B := 10) (by omega) hx lx
  have e1 : (txt B (vn xs)).size = (txtL B (vn xs)).length := mk_size _
  have e2 : (txt 10 (vn xs)).size = (txtL 10 (vn xs)).length := mk_size _
  have HTX : Hid (∀ w v, Sg w → Sl w.heap.size w v xs → Calls Tryd.prog 10 #[v, .int .i64 (B : Int)] w fun e w' => e = .returned (.tuple #[.string (txt B (vn xs)), .int .i64 0]) ∧ Below w.heap.size w w') := fun w v h h' => text_any h' lx hB hB2 h
  have HRD : Hid (∀ w, Sg w → Calls Tryd.prog 11 #[.string (txt B (vn xs)), .int .i64 (B : Int)] w (ReadTo w 0 (vn xs))) := fun w h => read_back hB hB2 h (by omega)
  have HDE : Hid (∀ w v, Sg w → Sl w.heap.size w v xs → Calls Tryd.prog 13 #[v] w fun e w' => e = .returned (.string (txt 10 (vn xs))) ∧ Below w.heap.size w w') := fun w v h h' => dec_any h' lx h
  have HT2 : Hid (∀ w v, Sg w → Sl w.heap.size w v xs → Calls Tryd.prog 10 #[v, .int .i64 10] w fun e w' => e = .returned (.tuple #[.string (txt 10 (vn xs)), .int .i64 0]) ∧ Below w.heap.size w w') := fun w v h h' => text_any (B := 10) h' lx (by omega) (by omega) h
  have HRE : Hid (∀ w, Sg w → Calls Tryd.prog 14 #[.string (txt 10 (vn xs))] w (ReadTo w 0 (vn xs))) := fun w h => readDec_back h (by omega)
  have HDI : Hid (∀ w v, Sg w → Sl w.heap.size w v xs → Calls Tryd.prog 15 #[v] w fun e w' => e = .returned (.int .i64 ((txt 10 (vn xs)).size : Int)) ∧ Below w.heap.size w w') := fun w v h h' => by rw [e2]; exact digits_any h' lx h
  have HGR : Hid (∀ w v, Sg w → Sl w.heap.size w v xs → Calls Tryd.prog 17 #[v] w fun e w' => e = .returned (.string ⟨(grpF true (txtL 10 (vn xs))).toArray⟩) ∧ Below w.heap.size w w') := fun w v h h' => grouped_any h' lx h (fun c hc => (good_ten (txt_back (B := 10) (n := vn xs) (by omega) (by omega)).1.2 hc).1)
  have HRG : Hid (∀ w, Sg w → Calls Tryd.prog 16 #[.string ⟨(grpF true (txtL 10 (vn xs))).toArray⟩] w (ReadTo w 0 (vn xs))) := fun w h => readGrouped_back h (by omega)
  have HEQ : Hid (∀ zs, Canon zs → vn zs = vn xs → zs = lst xs) := fun zs h h' => canon_inj h (canon_lst hx) (by rw [val_lst]; exact (vn_eq h.1 hx).1 h')
  generalize (⟨(grpF true (txtL 10 (vn xs))).toArray⟩ : ByteArray) = g at *
  generalize txt B (vn xs) = s at *
  generalize txt 10 (vn xs) = t at *
  generalize vn xs = N at *
  have b1 : ¬ (B : Int) < 2 := by omega
  have b2 : ¬ (36 : Int) < (B : Int) := by omega
  have q0 : ((0 : Int) != 0) = false := rfl
  obtain ⟨a, c, rfl⟩ : ∃ a c, va = .slice a xs.length c := by obtain ⟨_, a, c, e, _⟩ := ha; exact ⟨a, c, e⟩
  clear hT ha hx e1 e2 z1 hB hB2
  go_enter Tryd.func6, Tryd.ntmps6
  go_wp2_with fail
  refine (awake4_any HT.out).mono ?_
  rintro e w1 ⟨rfl, k⟩
  replace HT := hid (HT.out.now k)
  replace HA := hid (HA.out.now k)
  have K := hid k
  clear k
  go_wp2_with fail
  refine (least_now HA.out).mono ?_
  rintro e w2 ⟨r, rfl, sL, k⟩
  replace HT := hid (HT.out.now k)
  replace HA := hid (HA.out.now k)
  replace K := hid (below_step K.out k)
  have SL := hid sL
  obtain ⟨la, lc, rfl⟩ : ∃ a c, r = .slice a (lst xs).length c := by obtain ⟨_, a, c, e, _⟩ := sL; exact ⟨a, c, e⟩
  clear k sL
  go_wp2_with fail
  refine (HTX.out _ _ HT.out HA.out).mono ?_
  rintro e w3 ⟨rfl, k⟩
  replace HT := hid (HT.out.now k)
  replace HA := hid (HA.out.now k)
  replace SL := hid (SL.out.now k)
  replace K := hid (below_step K.out k)
  clear k HTX
  go_wp2_with fail
  refine (HRD.out _ HT.out).mono ?_
  rintro e w4 ⟨zb, ab, cb, rfl, mb, cn, vb, k⟩
  replace HT := hid (HT.out.now k)
  replace HA := hid (HA.out.now k)
  replace SL := hid (SL.out.now k)
  replace K := hid (below_step K.out k)
  have EB := hid (HEQ.out _ cn vb)
  have MB := hid mb.sl
  clear k HRD mb cn vb
  go_wp2_with fail
  refine (same_yes MB.out SL.out EB.out).mono ?_
  rintro e w5 ⟨rfl, k⟩
  replace HT := hid (HT.out.now k)
  replace HA := hid (HA.out.now k)
  replace SL := hid (SL.out.now k)
  replace K := hid (below_step K.out k)
  clear k MB EB
  go_wp2_with fail
  refine (HDE.out _ _ HT.out HA.out).mono ?_
  rintro e w6 ⟨rfl, k⟩
  replace HT := hid (HT.out.now k)
  replace HA := hid (HA.out.now k)
  replace SL := hid (SL.out.now k)
  replace K := hid (below_step K.out k)
  clear k HDE
  go_wp2_with fail
  refine (HT2.out _ _ HT.out HA.out).mono ?_
  rintro e w7 ⟨rfl, k⟩
  replace HT := hid (HT.out.now k)
  replace HA := hid (HA.out.now k)
  replace SL := hid (SL.out.now k)
  replace K := hid (below_step K.out k)
  clear k HT2
  go_wp2_with fail
  refine (HRE.out _ HT.out).mono ?_
  rintro e w8 ⟨zc, ac, cc, rfl, mb, cn, vb, k⟩
  replace HT := hid (HT.out.now k)
  replace HA := hid (HA.out.now k)
  replace SL := hid (SL.out.now k)
  replace K := hid (below_step K.out k)
  have EB := hid (HEQ.out _ cn vb)
  have MB := hid mb.sl
  clear k HRE mb cn vb
  go_wp2_with fail
  refine (same_yes MB.out SL.out EB.out).mono ?_
  rintro e w9 ⟨rfl, k⟩
  replace HT := hid (HT.out.now k)
  replace HA := hid (HA.out.now k)
  replace SL := hid (SL.out.now k)
  replace K := hid (below_step K.out k)
  clear k MB EB
  go_wp2_with fail
  refine (HDI.out _ _ HT.out HA.out).mono ?_
  rintro e w10 ⟨rfl, k⟩
  replace HT := hid (HT.out.now k)
  replace HA := hid (HA.out.now k)
  replace SL := hid (SL.out.now k)
  replace K := hid (below_step K.out k)
  clear k HDI
  go_wp2_with fail
  refine (HGR.out _ _ HT.out HA.out).mono ?_
  rintro e w11 ⟨rfl, k⟩
  replace HT := hid (HT.out.now k)
  replace HA := hid (HA.out.now k)
  replace SL := hid (SL.out.now k)
  replace K := hid (below_step K.out k)
  clear k HGR
  go_wp2_with fail
  refine (HRG.out _ HT.out).mono ?_
  rintro e w12 ⟨zd, ad, cd, rfl, mb, cn, vb, k⟩
  replace HT := hid (HT.out.now k)
  replace HA := hid (HA.out.now k)
  replace SL := hid (SL.out.now k)
  replace K := hid (below_step K.out k)
  have EB := hid (HEQ.out _ cn vb)
  have MB := hid mb.sl
  clear k HRG mb cn vb
  go_wp2_with fail
  refine (same_yes MB.out SL.out EB.out).mono ?_
  rintro e w13 ⟨rfl, k⟩
  replace K := hid (below_step K.out k)
  clear k MB EB SL HA HT
  go_wp2
  go_ret
  exact ⟨rfl, K.out⟩
set_option maxRecDepth 100000 in
set_option maxHeartbeats 12800000 in
theorem radixBack_base {w : World} {va : Value} {xs : List Int} {b : Int} (ha : Sl w.heap.size w va xs) (hT : Sg w) (hb0 : -9223372036854775808 ≤ b) (hb1 : b ≤ 9223372036854775807) (hb : ¬ (2 ≤ b ∧ b ≤ 36)) :
    Calls Tryd.prog 6 #[va, .int .i64 b] w fun e w' => e = .returned (.bool true) ∧ Below w.heap.size w w' := by
  have HT := hid hT
  have HA := hid ha
  have HRB : Hid (∀ (w : World), Calls Tryd.prog 11 #[.string ⟨#[]⟩, .int .i64 b] w fun e w' => e = .returned (.tuple #[.slice none 0 0, .int .i64 3]) ∧ w' = w) := fun w => read_bad hb0 hb1 hb _
  have HTB : Hid (∀ (w : World) v, Calls Tryd.prog 10 #[v, .int .i64 b] w fun e w' => e = .returned (.tuple #[.string ⟨#[]⟩, .int .i64 3]) ∧ w' = w) := fun w v => text_bad hb0 hb1 hb v
  obtain ⟨a, c, rfl⟩ : ∃ a c, va = .slice a xs.length c := by obtain ⟨_, a, c, e, _⟩ := ha; exact ⟨a, c, e⟩
  clear hT ha
  have hb' : b < 2 ∨ (¬ b < 2 ∧ 36 < b) := by omega
  clear hb
  rcases hb' with b1 | ⟨b1, b2⟩
  all_goals
    go_enter Tryd.func6, Tryd.ntmps6
    go_wp2_with fail
    refine (awake4_any HT.out).mono ?_
    rintro e w1 ⟨rfl, k⟩
    replace HA := hid (HA.out.now k)
    have K := hid k
    clear k
    go_wp2_with fail
    refine (least_now HA.out).mono ?_
    rintro e w2 ⟨r, rfl, sL, k⟩
    replace K := hid (below_step K.out k)
    obtain ⟨la, lc, rfl⟩ : ∃ a c, r = .slice a (lst xs).length c := by obtain ⟨_, a, c, e, _⟩ := sL; exact ⟨a, c, e⟩
    clear k sL HA HT
    go_wp2_with fail
    refine (HTB.out _ _).mono ?_
    rintro e w3 ⟨rfl, rfl⟩
    go_wp2_with fail
    refine (HRB.out _).mono ?_
    rintro e w4 ⟨rfl, rfl⟩
    clear HRB HTB
    go_wp2
    go_ret
    exact ⟨rfl, K.out⟩
theorem radixBack_any {w : World} {va : Value} {xs : List Int} {b : Int} (ha : Sl w.heap.size w va xs) (lx : xs.length ≤ 1048576) (hT : Sg w) (hb0 : -9223372036854775808 ≤ b) (hb1 : b ≤ 9223372036854775807) :
    Calls Tryd.prog 6 #[va, .int .i64 b] w fun e w' => e = .returned (.bool true) ∧ Below w.heap.size w w' := by
  by_cases hb : 2 ≤ b ∧ b ≤ 36
  · obtain ⟨B, hB⟩ : ∃ B : Nat, (B : Int) = b := ⟨b.toNat, by omega⟩
    rw [← hB]
    exact radixBack_good ha lx hT (by omega) (by omega)
  · exact radixBack_base ha hT hb0 hb1 hb
end Go.Proofs.YtpijffnconfboaaDoor
