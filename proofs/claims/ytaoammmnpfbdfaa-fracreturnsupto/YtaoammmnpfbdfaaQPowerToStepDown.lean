/-
  QPowerToStepDown: Power, Exact, StepDown, joined.
-/
import Derived.Test.YtaoammmnpfbdfaaQPow
import Derived.Test.YtaoammmnpfbdfaaQDivMod
import Derived.Test.YtaoammmnpfbdfaaQExact0
import Derived.Test.YtaoammmnpfbdfaaQRq8ToMWord
import Derived.Deep.LoopGhost

/- Power -/
namespace Go.Proofs.Ytaoammmnpfbdfaa
open Go.RowKit
set_option linter.unusedVariables false

/-- n x^(n+1) + r^(n+1) is at least (n+1) r x^n. -/
theorem amgm {x r : Int} (hx : 0 ≤ x) (hr : 0 ≤ r) : ∀ n : Nat, ((n : Int) + 1) * (r * x ^ n) ≤ (n : Int) * x ^ (n + 1) + r ^ (n + 1)
  | 0 => by simp [Int.pow_succ]
  | n + 1 => by
    have ih := amgm hx hr n
    have h1 := Int.mul_le_mul_of_nonneg_right ih hr
    have hp : 0 ≤ x ^ n := Int.pow_nonneg hx
    have hs : 0 ≤ (x - r) * (x - r) := by
      rcases Int.le_total 0 (x - r) with h | h
      · exact Int.mul_nonneg h h
      · exact Int.mul_nonneg_of_nonpos_of_nonpos h h
    have h2 := Int.mul_nonneg (Int.mul_nonneg (show (0 : Int) ≤ (n : Int) + 1 by omega) hp) hs
    rw [Int.pow_succ x (n + 1), Int.pow_succ x n, Int.pow_succ r (n + 1), Int.pow_succ r n]
    rw [Int.pow_succ x n, Int.pow_succ r n] at h1
    generalize x ^ n = X at *
    generalize r ^ n = R at *
    push_cast
    generalize (n : Int) = m at *
    grind
theorem pow_mono3 {x y : Int} (hx : 0 ≤ x) (h : x ≤ y) : ∀ n : Nat, x ^ n ≤ y ^ n
  | 0 => by simp
  | n + 1 => by
    rw [Int.pow_succ, Int.pow_succ]
    exact Int.mul_le_mul (pow_mono3 hx h n) h hx (Int.pow_nonneg (by omega))
/-- The step is at or above the root. -/
theorem newton_low {a x r : Int} {n : Nat} (hx : 0 < x) (hr : 0 ≤ r) (h : r ^ (n + 1) ≤ a) : r ≤ ((n : Int) * x + a / x ^ n) / ((n : Int) + 1) := by
  have hk : (0 : Int) < (n : Int) + 1 := by omega
  rw [Int.le_ediv_iff_mul_le hk]
  have hp : 0 < x ^ n := Int.pow_pos hx
  have h2 : r * ((n : Int) + 1) - (n : Int) * x ≤ a / x ^ n := by
    rw [Int.le_ediv_iff_mul_le hp]
    have h1 := amgm (Int.le_of_lt hx) hr n
    rw [Int.pow_succ x n] at h1
    rw [Int.sub_mul]
    generalize x ^ n = X at *
    have e1 : r * ((n : Int) + 1) * X = ((n : Int) + 1) * (r * X) := by grind
    have e2 : (n : Int) * x * X = (n : Int) * (X * x) := by grind
    rw [e1, e2]
    omega
  omega
/-- From above the root the step goes down. -/
theorem newton_down {a x r : Int} {n : Nat} (hx : 0 < x) (hr : 0 ≤ r) (ha : 0 ≤ a) (h : a < (r + 1) ^ (n + 1)) (hxr : r < x) : ((n : Int) * x + a / x ^ n) / ((n : Int) + 1) < x := by
  have hk : (0 : Int) < (n : Int) + 1 := by omega
  have hp : 0 < x ^ n := Int.pow_pos hx
  have h1 := pow_mono3 (x := r + 1) (y := x) (by omega) (by omega) (n + 1)
  rw [Int.pow_succ x n] at h1
  have h2 : a / x ^ n < x := Int.ediv_lt_of_lt_mul hp (by rw [Int.mul_comm]; omega)
  refine Int.ediv_lt_of_lt_mul hk ?_
  have e : x * ((n : Int) + 1) = (n : Int) * x + x := by grind
  have e' : ((n : Int) + 1) * x = (n : Int) * x + x := by grind
  first | (rw [e]; omega) | (rw [e']; omega)

theorem pow_half (X : Int) (n : Nat) : X ^ n = if n % 2 = 1 then X ^ (n / 2) * X ^ (n / 2) * X else X ^ (n / 2) * X ^ (n / 2) := by
  split
  · rename_i h
    rw [← Int.pow_add, ← Int.pow_succ]
    congr 1
    omega
  · rename_i h
    rw [← Int.pow_add]
    congr 1
    omega
def PowOk (N : Nat) : Prop := ∀ (w : World) (va : Value) (xs : List Int) (n : Nat), Sl w.heap.size w va xs → xs.length ≤ 1073741824 → xs.length * n ≤ 8589934592 → n < 4294967296 → n < N → Calls Try.prog 107 #[va, .int .i64 (n : Int)] w (Makes w (val xs ^ n))
set_option maxHeartbeats 1600000 in
theorem power_step {w : World} {va : Value} {xs : List Int} {n : Nat} (ha : Sl w.heap.size w va xs) (lx : xs.length ≤ 1073741824) (ln : xs.length * n ≤ 8589934592) (hn32 : n < 4294967296) (IH : PowOk n) : Calls Try.prog 107 #[va, .int .i64 (n : Int)] w (Makes w (val xs ^ n)) := by
  by_cases hn : n ≤ 256
  · have HP := pow_some ha lx hn
    have z : (n : Int) ≤ 256 := by omega
    clear ha IH
    go_enter Try.func107, Try.ntmps107
    go_wp2_with fail
    refine HP.mono ?_
    rintro e w1 ⟨zs, r, rfl, m1, c1, v1, b1⟩
    have M1 := hid m1
    have B1 := hid b1
    clear HP m1 b1
    go_wp2
    go_ret
    exact ⟨zs, r, rfl, M1.out, c1, v1, B1.out⟩
  · have z : ¬ (n : Int) ≤ 256 := by omega
    have e2 : (n : Int) / 2 = ((n / 2 : Nat) : Int) := by omega
    have hl2 : xs.length * (n / 2) ≤ xs.length * n := Nat.mul_le_mul_left _ (Nat.div_le_self _ _)
    have HP := hid (IH w va xs (n / 2) ha lx (by omega) (by omega) (by omega))
    have X0 := hid (val_nonneg ha.1)
    have X1 := hid (val_lt_pw ha.1)
    have HA := hid ha
    have PH := hid (pow_half (val xs) n)
    obtain ⟨h, hh⟩ : ∃ h, n / 2 = h := ⟨_, rfl⟩
    rw [hh] at HP e2 hl2 PH
    clear ha IH hh
    go_enter Try.func107, Try.ntmps107
    go_wp2_with fail
    refine HP.out.mono ?_
    rintro e w1 ⟨zs, r, rfl, m1, c1, v1, b1⟩
    have l1 := pow_len X0.out X1.out c1 v1
    have HS := hid (square_any m1.sl (by omega))
    have V1 := hid v1
    have B1 := hid b1
    clear HP v1 b1
    go_wp2_with fail
    refine HS.out.mono ?_
    rintro e w2 ⟨zs2, r2, rfl, m2, c2, v2, b2⟩
    have l2 := pow_len (e := h + h) X0.out X1.out c2 (by rw [v2, V1.out, ← Int.pow_add])
    have hl3 : xs.length * (h + h) ≤ 2 * (xs.length * n) := by rw [Nat.mul_add]; omega
    have V2 := hid v2
    have B2 := hid (below_step B1.out b2)
    have M2 := hid (m2.mono B1.out.size)
    clear HS m1 v2 b2
    by_cases hodd : n % 2 = 1
    · have z2 : ((n : Int) % 2 == 1) = true := by rw [beq_iff_eq]; omega
      have z3 : (n : Int) % 2 = 1 := by omega
      have HM := hid (mul_any m2.sl (HA.out.now B2.out) (by omega))
      clear m2
      go_wp2_with fail
      refine HM.out.mono ?_
      rintro e w3 ⟨zs3, r3, rfl, m3, c3, v3, b3⟩
      have M3 := hid (m3.mono B2.out.size)
      have B3 := hid (below_step B2.out b3)
      have V3 := hid v3
      clear HM m3 b3 v3
      go_wp2
      go_ret
      exact ⟨zs3, r3, rfl, M3.out, c3, by rw [V3.out, V2.out, V1.out, PH.out, if_pos hodd], B3.out⟩
    · have z2 : ((n : Int) % 2 == 1) = false := by rw [beq_eq_false_iff_ne]; omega
      clear m2
      go_wp2
      go_ret
      exact ⟨zs2, r2, rfl, M2.out, c2, by rw [V2.out, V1.out, PH.out, if_neg hodd], B2.out⟩
theorem power_ok : ∀ N, PowOk N
  | 0 => fun w va xs n _ _ _ _ h => by omega
  | N + 1 => fun w va xs n ha lx ln h32 h => power_step ha lx ln h32 (fun w' va' xs' n' ha' lx' ln' h32' h' => power_ok N w' va' xs' n' ha' lx' ln' h32' (by omega))
theorem power_any {w : World} {va : Value} {xs : List Int} {n : Nat} (ha : Sl w.heap.size w va xs) (lx : xs.length ≤ 1073741824) (ln : xs.length * n ≤ 8589934592) (h32 : n < 4294967296) : Calls Try.prog 107 #[va, .int .i64 (n : Int)] w (Makes w (val xs ^ n)) :=
  power_ok _ w va xs n ha lx ln h32 (Nat.lt_succ_self _)
end Go.Proofs.Ytaoammmnpfbdfaa

/- Exact -/
namespace Go.Proofs.Ytaoammmnpfbdfaa
open Go.RowKit
set_option linter.unusedVariables false

end Go.Proofs.Ytaoammmnpfbdfaa

/- StepDown -/
namespace Go.Proofs.Ytaoammmnpfbdfaa
open Go.RowKit
set_option linter.unusedVariables false

theorem mul_lenR {xs ys zs : List Int} (hx : WF xs) (hy : WF ys) (hz : Canon zs) (h : val zs = val xs * val ys) : zs.length ≤ xs.length + ys.length :=
  canon_len hz (by rw [h]; exact val_mul_lt hx hy)
/-- r is the k-th root of a, rounded down. -/
def IsRoot (r a : Int) (k : Nat) : Prop := 0 ≤ r ∧ r ^ k ≤ a ∧ a < (r + 1) ^ k
theorem div_is {X Y q r : Int} (h : X = Y * q + r) (h0 : 0 ≤ r) (h1 : r < Y) : X / Y = q := by
  rw [h, Int.add_comm, Int.add_mul_ediv_left _ _ (by omega), Int.ediv_eq_zero_of_lt h0 h1, Int.zero_add]
theorem wid_ne3 {ys : List Int} (h : 0 < val ys) : wid ys ≠ 0 := fun e => by have := wid_zero_val ys e; omega
def Rooted (B0 : Nat) (w : World) (r : Int) (e : Ending) (w' : World) : Prop := ∃ zs v, e = .returned v ∧ Own B0 w' v zs ∧ Canon zs ∧ val zs = r ∧ Below w.heap.size w w'

/-- A slice, the call's own if it holds r. -/
def OwnIf (B0 : Nat) (r : Int) (w : World) (v : Value) (us : List Int) : Prop := Sl w.heap.size w v us ∧ (val us = r → Own B0 w v us)
theorem OwnIf.sl {B0 : Nat} {r : Int} {w : World} {v : Value} {us : List Int} (h : OwnIf B0 r w v us) : Sl w.heap.size w v us := h.1
theorem OwnIf.stay {B0 : Nat} {r : Int} {w w' : World} {v : Value} {us : List Int} (h : OwnIf B0 r w v us) (b : Below w.heap.size w w') : OwnIf B0 r w' v us := ⟨h.1.now b, fun e => (h.2 e).stay b⟩
theorem Own.ownIf {B0 : Nat} {r : Int} {w : World} {v : Value} {us : List Int} (h : Own B0 w v us) : OwnIf B0 r w v us := ⟨h.sl, fun _ => h⟩

set_option maxHeartbeats 3200000 in
set_option maxRecDepth 100000 in
theorem stepDown_any {B0 : Nat} {w : World} {va vx : Value} {xs us0 : List Int} {n : Nat} {r : Int} (ha : Sl w.heap.size w va xs) (hx : OwnIf B0 r w vx us0) (hcu : Canon us0) (hn : 1 ≤ n) (hr1 : 1 ≤ r) (hr : IsRoot r (val xs) (n + 1)) (hgt : r ≤ val us0) (lx : xs.length ≤ 1099511627776) (lu : us0.length ≤ 1073741824) (lun : us0.length * n ≤ 8589934592) (hn32 : n + 1 < 4294967296) (hB : B0 ≤ w.heap.size) :
    Calls Try.prog 105 #[va, vx, .int .i64 ((n : Int) + 1)] w (Rooted B0 w r) := by
  have HA := hid ha
  have HX := hid hx
  have HR := hid hr
  have WA := hid ha.1
  have a0 := hid (val_nonneg ha.1)
  clear ha hx hr
  go_enter Try.func105, Try.ntmps105
  go_wp2_with fail
  go_loopg [1] (val us0).toNat (fun g s1 wx => ∃ us : List Int, (g : Int) = val us ∧ Hid (OwnIf B0 r wx s1 us) ∧ Hid (Canon us) ∧ r ≤ val us ∧ us.length ≤ us0.length ∧ Hid (Below w.heap.size w wx))
  case atStart => exact ⟨us0, Int.toNat_of_nonneg (by omega), HX, hcu, hgt, Nat.le_refl _, Below.refl _ _⟩
  case round =>
    clear HX hcu hgt
    obtain ⟨us, hg, OU, CU, hge, hlu, KK⟩ := hrel
    have hun : us.length * n ≤ us0.length * n := Nat.mul_le_mul_right _ hlu
    have HP := hid (power_any (n := n) OU.out.sl (by omega) (by omega) (by omega))
    have u0 : 0 < val us := by omega
    have ek : (n : Int) + 1 - 1 = (n : Int) := by omega
    have X0 := val_nonneg CU.out.1
    have X1 := hid (val_lt_pw CU.out.1)
    go_wp2_with fail
    refine HP.out.mono ?_
    rintro e w1 ⟨ps, vp, rfl, mp, cp, ep, b1⟩
    have lp := pow_len X0 X1.out cp ep
    have pp : 0 < val ps := by rw [ep]; exact Int.pow_pos u0
    have K1 := hid (below_step KK.out b1)
    have HD := hid (divMod_any (HA.out.now K1.out) mp.sl (wid_ne3 pp) lx (by omega))
    have EP := hid ep
    have OU1 := hid (OU.out.stay b1)
    clear HP mp b1 ep
    go_wp2_with fail
    refine HD.out.mono ?_
    rintro e w2 ⟨qs, rs, vq, vr, rfl, oq, or', cq, cr, ev, hlt, hlq, hlr, _, b2⟩
    have K2 := hid (below_step K1.out b2)
    have HQ : Hid (val xs / val us ^ n = val qs) := by unfold Hid; rw [← EP.out]; exact div_is ev (val_nonneg cr.1) hlt
    have OU2 := hid (OU1.out.stay b2)
    have SQ2 := hid oq.sl
    have HW := hid (word_any OU2.out.sl (W := (n : Int)) (by unfold IsW wB; omega) (by omega))
    obtain ⟨qa, qc, rfl⟩ := oq.form
    obtain ⟨ra, rc, rfl⟩ := or'.form
    have ew : IntKind.u64.wrap (n : Int) = (n : Int) := by rw [IntKind.wrap_u64]; omega
    have ew1 : IntKind.u64.wrap ((n : Int) + 1) = (n : Int) + 1 := by rw [IntKind.wrap_u64]; omega
    clear HD oq or' cr ev hlt hlr b2 OU1 EP
    go_wp2_with fail
    refine HW.out.mono ?_
    rintro e w3 ⟨ts, vt, rfl, mt, ct, et, b3⟩
    have lt := mul_lenR (ys := [(n : Int)]) CU.out.1 (WF.cons (by unfold IsW wB; omega) WF.nil) ct (by rw [et]; simp [val])
    simp only [List.length_cons, List.length_nil] at lt
    have K3 := hid (below_step K2.out b3)
    have OU3 := hid (OU2.out.stay b3)
    have HS := hid (add_now mt.sl (SQ2.out.now b3) (by omega) (by omega))
    have ET := hid et
    clear HW mt b3 et OU2 SQ2
    go_wp2_with fail
    refine HS.out.mono ?_
    rintro e w4 ⟨ss, vs, rfl, ssl, cs, es, _, b4⟩
    have K4 := hid (below_step K3.out b4)
    have OU4 := hid (OU3.out.stay b4)
    have HDW := hid (divWord_any (W := (n : Int) + 1) ssl (by unfold IsW wB; omega) (by omega))
    have ES := hid es
    clear HS ssl b4 es OU3
    go_wp2_with fail
    refine HDW.out.mono ?_
    rintro e w5 ⟨ns, vn', rn, rfl, on, cn, hrw, hrl, env, hln, b5⟩
    have K5 := hid (below_step K4.out b5)
    have OU5 := hid (OU4.out.stay b5)
    have HNV : Hid (val ns = ((n : Int) * val us + val xs / val us ^ n) / ((n : Int) + 1)) := by
      unfold Hid
      rw [HQ.out, Int.mul_comm, ← ET.out, ← ES.out]
      exact (div_is env hrw.1 hrl).symm
    have HC := hid (cmp_now on.sl OU5.out.sl)
    have ON := hid (on.lower (B' := B0) (by have := K4.out.size; omega))
    obtain ⟨na, nc, rfl⟩ := on.form
    clear HDW on b5 env OU4 hrw hrl
    by_cases hcmp : val us ≤ val ns
    · have hc := cmpI_nonneg hcmp
      have hur : val us = r := by
        rcases Int.lt_or_eq_of_le hge with t | t
        · have := newton_down (n := n) u0 HR.out.1 a0.out HR.out.2.2 t
          rw [← HNV.out] at this
          omega
        · exact t.symm
      have HUR := hid hur
      generalize cmpI (val ns) (val us) = CC at *
      have hc2 : 0 ≤ CC := by omega
      clear hur hcmp hg
      go_wp2_with fail
      refine HC.out.mono ?_
      rintro e w6 ⟨rfl, b6⟩
      have K6 := hid (below_step K5.out b6)
      have OU6 := hid (OU5.out.stay b6)
      clear HC b6
      go_wp2
      go_ret
      exact ⟨us, _, rfl, OU6.out.2 HUR.out, CU.out, HUR.out, K6.out⟩
    · have hc := cmpI_neg (show val ns < val us by omega)
      have hnr : r ≤ val ns := by rw [HNV.out]; exact newton_low (n := n) u0 HR.out.1 HR.out.2.1
      have hll := canon_len_le cn CU.out (by omega)
      generalize cmpI (val ns) (val us) = CC at *
      have hc2 : ¬ 0 ≤ CC := by omega
      have HG2 : Hid (((val ns).toNat : Int) = val ns ∧ (val ns).toNat < gk) := ⟨Int.toNat_of_nonneg (by omega), by omega⟩
      clear hcmp hg
      go_wp2_with fail
      refine HC.out.mono ?_
      rintro e w6 ⟨rfl, b6⟩
      have K6 := hid (below_step K5.out b6)
      have ON6 := hid ((ON.out.stay b6).ownIf (r := r))
      clear HC b6
      go_wp2_with fail
      go_roundg (val ns).toNat
      case rel => exact ⟨ns, HG2.out.1, ON6, cn, hnr, by omega, K6⟩
      case measure => exact HG2.out.2
end Go.Proofs.Ytaoammmnpfbdfaa
