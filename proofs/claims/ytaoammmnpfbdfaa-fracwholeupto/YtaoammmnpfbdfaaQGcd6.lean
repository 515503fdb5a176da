/-
  Gcd6: Gcd, Lcm.
-/
import Derived.Test.YtaoammmnpfbdfaaQLess6
import Derived.Test.YtaoammmnpfbdfaaQRq8ToMWord
import Derived.Test.YtaoammmnpfbdfaaQGcdAll
import Derived.Test.YtaoammmnpfbdfaaQExtPure
namespace Go.Proofs.Ytaoammmnpfbdfaa
open Go.RowKit
set_option linter.unusedVariables false

theorem ig_vals {n m : Bool} {xs ys : List Int} {A B : Int} (hx : WF xs) (hy : WF ys) (ha : iv n xs = A) (hb : iv m ys = B) : (ig (val xs) (val ys) : Int) = (Int.gcd A B : Int) := by
  rw [iv_abs hx ha, iv_abs hy hb]
  rfl
theorem gcd_lt {A B : Int} {k : Nat} (hA : (A.natAbs : Int) < pw k) (hB : (B.natAbs : Int) < pw k) : ((Int.gcd A B : Int).natAbs : Int) < pw k := by
  have h := pw_pos k
  by_cases e : A = 0
  · subst e
    simp only [Int.gcd, Int.natAbs_zero, Nat.gcd_zero_left]
    omega
  · have := Nat.le_of_dvd (show 0 < A.natAbs by omega) (Nat.gcd_dvd_left A.natAbs B.natAbs)
    simp only [Int.gcd]
    omega
/-- The least common multiple. -/
def lcmv (A B : Int) : Int := ((A.tdiv (Int.gcd A B : Int) * B).natAbs : Int)
theorem gcd_div (A B : Int) : (Int.gcd A B : Int) ≠ 0 → A.tmod (Int.gcd A B : Int) = 0 := fun _ => Int.tmod_eq_zero_of_dvd (Int.gcd_dvd_left ..)
theorem tdiv_natAbs_le (A g : Int) : (A.tdiv g).natAbs ≤ A.natAbs := by
  rw [Int.natAbs_tdiv]
  exact Nat.div_le_self _ _

set_option maxHeartbeats 6400000 in
set_option maxRecDepth 100000 in
theorem gcd_z {w : World} {va vb : Value} {A B : Int} {k : Nat} (ha : Zi w va A k) (hb : Zi w vb B k) (hk : k ≤ 68719476736) :
    Calls Try.prog 35 #[va, vb] w (GivesZ w (Int.gcd A B : Int) k) := by
  have LA := hid ha.lt
  have LB := hid hb.lt
  have za0 := ha
  obtain ⟨na, xa, ada, ca, rfl, sa, ea, la⟩ := ha
  have zb0 := hb
  obtain ⟨nb, xb, adb, cb, rfl, sb, eb, lb⟩ := hb
  obtain ⟨W0, hW⟩ : ∃ W0, ((w.alloc (duo (.bool na) (.slice ada xa.length ca))).alloc (duo (.bool nb) (.slice adb xb.length cb))).alloc zbox = W0 := ⟨_, rfl⟩
  obtain ⟨b0, sz0⟩ := alloc3 w (duo (.bool na) (.slice ada xa.length ca)) (duo (.bool nb) (.slice adb xb.length cb)) zbox
  rw [hW] at b0 sz0
  have Pa : Hid (Duo W0 (w.heap.size) (.bool na) (.slice ada xa.length ca)) := by unfold Hid; rw [← hW]; exact duo_late (duo_late (duo_at (by simp)) _) _
  have Pb : Hid (Duo W0 (w.heap.size + 1) (.bool nb) (.slice adb xb.length cb)) := by unfold Hid; rw [← hW]; exact duo_late (duo_at (by simp)) _
  have PRG : Hid (Duo W0 (w.heap.size + 1 + 1) (.bool false) (.slice none 0 0)) := by unfold Hid; rw [← hW]; exact duo_at (by simp)
  have Za := hid (za0.now b0)
  clear za0
  have Sa := hid (sa.now b0)
  clear sa
  have Zb := hid (zb0.now b0)
  clear zb0
  have Sb := hid (sb.now b0)
  clear sb
  have G := hid b0
  clear b0
  have EW := hid hW
  clear hW
  go_enter Try.func35, Try.ntmps35
  have IG := hid (ig_vals Sa.out.1 Sb.out.1 ea eb)
  clear ea eb
  have ca0 := Pa.out.c0
  have ca1 := Pa.out.c1
  have cb0 := Pb.out.c0
  have cb1 := Pb.out.c1
  rw [← EW.out] at ca0 ca1 cb0 cb1
  go_wp2_with fail
  rw [EW.out]
  clear EW
  clear ca0 ca1 cb0 cb1
  refine (gcd_any Sa.out Sb.out (by omega) (by omega)).mono ?_
  rintro e w1 ⟨zs, r, rfl, ho, hc, hv, b⟩
  obtain ⟨az, cz, rfl⟩ := ho.form
  have HM := hid ho.mine5
  have HC := hid hc
  have HV : Hid (val zs = (Int.gcd A B : Int)) := hv.trans IG.out
  have hl : Hid (zs.length ≤ k) := canon_len hc (by rw [HV.out]; exact Int.lt_of_le_of_lt (by omega) (gcd_lt LA.out LB.out))
  replace Za := hid (Za.out.now b)
  replace Zb := hid (Zb.out.now b)
  replace Pa := hid (Pa.out.step b)
  replace Pb := hid (Pb.out.step b)
  replace PRG := hid (PRG.out.step b)
  replace Sa := hid (Sa.out.now b)
  replace Sb := hid (Sb.out.now b)
  replace G := hid (below_step G.out b)
  have lz1 := (show Below _ _ _ from b).size
  clear b ho hc hv
  have cRG0 := PRG.out.c0
  have cRG1 := PRG.out.c1
  have fRG0 := PRG.out.fz 0
  have fRG1 := PRG.out.fz 1
  have FIN : Hid (Zm W0.heap.size w1 (.agg #[.bool false, .slice az zs.length cz]) (Int.gcd A B : Int) k) := by
    unfold Hid
    have q := zm_of (n := false) HM.out HC.out hl.out
    rw [iv_pos, HV.out] at q
    exact q
  go_wp2
  exact bodyPost_ret (zback Try.results35 (PRG.out.set _ _) _ (by rfl)) rfl (gz_end (B := W0.heap.size) FIN.out G.out (by omega) (by omega))

end Go.Proofs.Ytaoammmnpfbdfaa
