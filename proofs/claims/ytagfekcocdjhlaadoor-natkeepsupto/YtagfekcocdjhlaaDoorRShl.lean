/-
  RShl: the reference's Shl.
-/
import Derived.Test.YtagfekcocdjhlaaDoorRSub
namespace Go.Proofs.YtagfekcocdjhlaaDoor
open Go.RowKit

theorem power_at {i : Int} (k : Nat) (hi : i = (k : Int)) (hk : k ≤ 16) (w : World) :
    Calls Tryd.prog 49 #[.int .i64 i] w fun e w' => e = .returned (.int .i64 ((2 ^ k : Nat) : Int)) ∧ w' = w := by subst hi; exact power_any k hk w
theorem dpw_add : ∀ a b, dpw (a + b) = dpw a * dpw b
  | 0, b => by simp [dpw]
  | a + 1, b => by rw [show a + 1 + b = a + b + 1 by omega, dpw, dpw, dpw_add a b, Int.mul_assoc]
theorem dpw_pow : ∀ k, dpw k = ((2 ^ (16 * k) : Nat) : Int)
  | 0 => rfl
  | k + 1 => by rw [dpw, dpw_pow k, show 16 * (k + 1) = 16 + 16 * k by omega, Nat.pow_add]; unfold dwB; omega
theorem two_split16 (n : Nat) : ((2 ^ n : Nat) : Int) = dpw (n / 16) * ((2 ^ (n % 16) : Nat) : Int) := by
  rw [dpw_pow, ← Int.natCast_mul, ← Nat.pow_add, show 16 * (n / 16) + n % 16 = n by omega]
theorem pow16_le {p : Nat} (hp : p < 16) : 1 ≤ 2 ^ p ∧ 2 ^ p ≤ 32768 := ⟨Nat.two_pow_pos p, Nat.le_trans (Nat.pow_le_pow_right (by omega) (show p ≤ 15 by omega)) (by decide)⟩

theorem rshl_neg (v : Value) (w : World) {i : Int} (hi : i < 0) :
    Calls Tryd.prog 22 #[v, .int .i64 i] w fun e w' => e = .returned (.tuple #[.slice none 0 0, .int .i64 3]) ∧ w' = w := by
  go_enter Tryd.func22, Tryd.ntmps22
  go_wp2
  go_ret2
  exact ⟨rfl, rfl⟩
theorem rshl_big (v : Value) (w : World) {i : Int} (hi : 1048576 < i) :
    Calls Tryd.prog 22 #[v, .int .i64 i] w fun e w' => e = .returned (.tuple #[.slice none 0 0, .int .i64 5]) ∧ w' = w := by
  have h0 : ¬ i < 0 := by omega
  go_enter Tryd.func22, Tryd.ntmps22
  go_wp2
  go_ret2
  exact ⟨rfl, rfl⟩
theorem shl_round {X zs : List Int} {n k m P : Nat} {x cc T : Int} (hm : m = n / 16 + k) (hl : zs.length = m) (hd : DF zs) (hP : ((2 ^ n : Nat) : Int) = dpw (n / 16) * (P : Int)) (hT : dval (X.take (k + 1)) = dval (X.take k) + x * dpw k)
    (hv : dval zs + dpw m * cc = ((2 ^ n : Nat) : Int) * dval (X.take k)) (hs : T = x * (P : Int) + cc) : DF (zs ++ [T % 65536]) ∧ dval (zs ++ [T % 65536]) + dpw (m + 1) * (T / 65536) = ((2 ^ n : Nat) : Int) * dval (X.take (k + 1)) := by
  have h1 := split_step hl hd (y := T) (T := dval zs + dpw m * T) rfl
  refine ⟨h1.1, ?_⟩
  rw [h1.2, hT, Int.mul_add, ← hv, hs, Int.mul_add, hP, hm, dpw_add]
  have : dpw (n / 16) * dpw k * (x * (P : Int)) = dpw (n / 16) * (P : Int) * (x * dpw k) := by simp only [Int.mul_assoc, Int.mul_comm, Int.mul_left_comm]
  omega

set_option maxHeartbeats 3200000 in
theorem rshl_any {w : World} {v : Value} {xs : List Int} (h : Sl w.heap.size w v xs) {n : Nat} (hn : n ≤ 1048576) (hlen : xs.length ≤ 1099511627776) :
    Calls Tryd.prog 22 #[v, .int .i64 (n : Int)] w (Told2 w (((2 ^ n : Nat) : Int) * val xs)) := by
  generalize hS : ((2 ^ n : Nat) : Int) * val xs = S
  have HS := hid hS
  clear hS
  go_enter Tryd.func22, Tryd.ntmps22
  go_wp2_with fail
  refine (split_any h (by omega)).mono ?_
  rintro e w1 ⟨X, rx, rfl, hs, hcx, hvx, hlx, hb⟩
  have HVX := hid hvx
  have HB := hid hb
  clear hvx h hb
  obtain ⟨-, ax, capx, rfl, hlcx, hcmx, hmx⟩ := hs
  have HM := hid hmx
  have HC := hid hcx
  clear hmx hcx
  by_cases hx0 : X.length = 0
  · have hX : X = [] := List.eq_nil_of_length_eq_zero hx0
    have hz : ((X.length : Int) == 0) = true := by rw [beq_iff_eq]; omega
    have HE : Hid (S = 0) := by unfold Hid; rw [← HS.out, ← HVX.out, hX]; simp [dval]
    clear hX
    go_wp2
    go_ret2
    exact ⟨[], _, rfl, ⟨WF.nil, .inl ⟨rfl, rfl⟩⟩, ⟨WF.nil, rfl⟩, by rw [HE.out]; rfl, HB.out⟩
  · have hz : ((X.length : Int) == 0) = false := by rw [beq_eq_false_iff_ne]; omega
    obtain ⟨P, hP⟩ : ∃ P : Nat, P = 2 ^ (n % 16) := ⟨_, rfl⟩
    have hPb := pow16_le (show n % 16 < 16 from Nat.mod_lt _ (by omega))
    have HPW := hid (power_at (i := (n : Int) % 16) (n % 16) (by omega) (by omega))
    have HSP := hid (two_split16 n)
    rw [← hP] at hPb HPW HSP
    have HP := hid hP
    clear hP
    obtain ⟨hP1, hP2⟩ := hPb
    have hm64 : n / 16 ≤ 65536 := by omega
    generalize hM : n / 16 = M at *
    have HMM := hid hM
    clear hM
    have HZ := hid (zeros_d M)
    have hMi : (n : Int) / 16 = (M : Int) := by have := HMM.out; omega
    go_wp2_with (at_make; refine wpList_make_ints _ rfl _ _ rfl _ _ M (M + X.length + 1) rfl rfl (by omega) (by omega) (by omega) (by omega) ?_)
    intro w4 hrow hb4 hsz4
    have hhs : w1.heap.size < w4.heap.size := by have := hsz4.out; omega
    have HV0 : Hid (dval (List.replicate M 0) + dpw (M + 0) * 0 = ((2 ^ n : Nat) : Int) * dval (X.take 0)) := by unfold Hid; rw [HZ.out.2]; simp [dval]
    have HR0 : Hid (RowI w4 w1.heap.size (wi (List.replicate M 0) ++ wi (List.replicate (X.length + 1) 0))) := by
      unfold Hid
      have e : wi (List.replicate M 0) ++ wi (List.replicate (X.length + 1) 0) = wi (List.replicate (M + X.length + 1) 0) := by
        unfold wi; rw [← List.map_append, List.replicate_append_replicate, Nat.add_assoc]
      rw [e]; exact hrow
    clear hsz4 hrow
    go_wp2_with fail
    refine (HPW.out _).mono ?_
    rintro e w5 ⟨rfl, rfl⟩
    clear HPW
    go_wp2_with fail
    go_loopw [7, 9, 10] (fun d c i wr => ∃ (k : Nat) (zs : List Int) (r : List Value) (cc : Int), k ≤ X.length ∧ i = .int .i64 k ∧ c = .int .i64 cc ∧ 0 ≤ cc ∧ cc < (P : Int) ∧ d = .slice (some ⟨w1.heap.size, 0, none⟩) (M + k) (M + X.length + 1) ∧ Hid (zs.length = M + k) ∧ Hid (r.length + k = X.length + 1) ∧ Hid (DF zs) ∧
        Hid (dval zs + dpw (M + k) * cc = ((2 ^ n : Nat) : Int) * dval (X.take k)) ∧ RowI wr w1.heap.size (wi zs ++ r) ∧ Below w1.heap.size w1 wr ∧ w1.heap.size < wr.heap.size) (fun _ _ i _ => X.length - (intOf i).toNat)
    case atStart => exact ⟨0, _, _, 0, Nat.zero_le _, rfl, rfl, by omega, by omega, rfl, (by unfold Hid; simp), (by unfold Hid; simp [length_wi]), HZ.out.1, HV0, HR0.out, hb4, hhs⟩
    case round =>
      clear HV0 HR0 hb4 hhs HZ
      obtain ⟨k, zs, r, cc, hk, rfl, rfl, hc0, hc1, rfl, HL, HR, HD, HV, hr, hb, hhs⟩ := hrel
      have hrp : 0 < r.length := by have := HR.out; omega
      by_cases hkn : k < X.length
      · have hx := dig_get HC.out.1 k
        have HT := hid (dtake_next X k)
        rcases HM.out with e | ⟨b, off, rfl, hbg, hc⟩
        · subst e; simp at hkn
        have cx : wr.cell? ⟨b, off + k, none⟩ = some (.int .i64 (X.getD k 0)) := by
          rw [show X.getD k 0 = X[k] by simp [hkn]]
          exact (hb.cell (p := ⟨b, off + k, none⟩) hbg).trans (hc k hkn)
        generalize X.getD k 0 = x at *
        obtain ⟨hx1, hx2⟩ := hx
        have hxp0 : 0 ≤ x * (P : Int) := Int.mul_nonneg hx1 (by omega)
        have hxp1 : x * (P : Int) ≤ 65535 * (P : Int) := Int.mul_le_mul_of_nonneg_right hx2 (by omega)
        have hst := hid (shl_round (show M + k = n / 16 + k by rw [HMM.out]) HL.out HD.out (by rw [HMM.out]; exact HSP.out) HT.out HV.out rfl)
        clear hc
        go_wp2_with (at_builtin; refine wpList_append_int _ rfl (.tmp 47) (.tmp 50) rfl w1.heap.size (M + k) (M + X.length + 1) zs r ((x * (P : Int) + cc) % 65536) (hr.alloc _) HL.out hrp (by have := HR.out; omega) rfl ⟨wr.heap.size, 0, none⟩ rfl (by simp) ?_)
        intro w6 hr6 hb6
        have hb16 := hid ((hb.alloc (Nat.le_of_lt hhs) _).trans hb6)
        have hhs6 : w1.heap.size < w6.heap.size := by have := hb6.size; simp at this; omega
        have HL6 : Hid ((zs ++ [(x * (P : Int) + cc) % 65536]).length = M + (k + 1)) := by unfold Hid; simp; have := HL.out; omega
        have HR6 : Hid (r.tail.length + (k + 1) = X.length + 1) := by unfold Hid; simp; have := HR.out; omega
        clear hb6 hr hb HL HR HD HV HT
        go_wp2
        go_roundw
        case rel => exact ⟨k + 1, _, r.tail, (x * (P : Int) + cc) / 65536, by omega, by go_num, rfl, by omega, by omega, rfl, HL6, HR6, hst.out.1, hst.out.2, hr6, hb16.out, hhs6⟩
        case measure => simp [intOf]; omega
      · obtain rfl : k = X.length := by omega
        have hcd : IsD cc := by unfold IsD dwB; omega
        have HD7 : Hid (DF (zs ++ [cc])) := HD.out.append (DF.cons hcd DF.nil)
        have HV7 : Hid (dval (zs ++ [cc]) = S) := by
          unfold Hid
          rw [dval_append, HL.out]
          have q := HV.out
          rw [List.take_length, HVX.out, HS.out] at q
          simpa [dval] using q
        go_wp2_with (at_builtin; refine wpList_append_int _ rfl (.tmp 54) (.tmp 56) rfl w1.heap.size (M + X.length) (M + X.length + 1) zs r cc (hr.alloc _) HL.out hrp (by have := HR.out; omega) rfl ⟨wr.heap.size, 0, none⟩ rfl (by simp) ?_)
        intro w6 hr6 hb6
        have hb16 := hid ((hb.alloc (Nat.le_of_lt hhs) _).trans hb6)
        have hhs6 : w1.heap.size < w6.heap.size := by have := hb6.size; simp at this; omega
        have HL6 : Hid ((zs ++ [cc]).length = M + X.length + 1) := by unfold Hid; simp; exact HL.out
        clear hb6 hr hb HL HR HD HV
        generalize zs ++ [cc] = Z at *
        have hsz := RowI.sl hr6 (ints_of_df HD7.out) (cap := M + X.length + 1) (by rw [HL6.out]; exact Nat.le_refl _) (by omega) hhs6
        rw [HL6.out] at hsz
        have HJ := hid (join_any hsz HD7.out)
        have HBB := hid (below_step HB.out hb16.out)
        clear hsz hr6
        go_wp2_with fail
        refine HJ.out.mono ?_
        rintro e w7 ⟨qs, q, rfl, ho, hcz, hvz, hb5⟩
        have HVZ := hid hvz
        clear hvz
        go_wp2
        go_ret2
        exact ⟨qs, q, rfl, ho.from HBB.out.size, hcz, by rw [HVZ.out, HV7.out], below_step HBB.out hb5⟩
end Go.Proofs.YtagfekcocdjhlaaDoor
