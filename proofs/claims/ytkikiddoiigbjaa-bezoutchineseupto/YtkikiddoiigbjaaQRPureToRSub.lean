/-
  QRPureToRSub: RPure, RPow, RSub, joined.
-/
import Derived.Test.YtkikiddoiigbjaaQExactToRDivMod
import Derived.Test.YtkikiddoiigbjaaQGatE6ToR5Made

/- RPure -/
namespace Go.Proofs.Ytkikiddoiigbjaa
open Go.RowKit

theorem dpw_pow : ∀ k, dpw k = ((2 ^ (16 * k) : Nat) : Int)
  | 0 => rfl
  | k + 1 => by rw [dpw, dpw_pow k, show 16 * (k + 1) = 16 + 16 * k by omega, Nat.pow_add]; unfold dwB; omega
theorem dval_dn {X : List Int} (hX : DF X) : ∃ V : Nat, dval X = (V : Int) ∧ V < 2 ^ (16 * X.length) := by
  have h0 := dval_nonneg hX
  have h1 := dval_lt_pw hX
  rw [dpw_pow] at h1
  obtain ⟨V, hV⟩ := Int.eq_ofNat_of_zero_le h0
  exact ⟨V, hV, by rw [hV] at h1; omega⟩
/-- The number of a list of digits taken apart at one of them. -/
theorem at_digit {X : List Int} (hX : DF X) {i : Nat} (h : i < X.length) {V : Nat} (hV : dval X = (V : Int)) : ∃ A C : Nat, A < 2 ^ (16 * i) ∧ V = A + 2 ^ (16 * i) * ((X.getD i 0).toNat + 65536 * C) ∧ dval (X.take i) = (A : Int) ∧ dval (X.drop (i + 1)) = (C : Int) := by
  obtain ⟨A, hA, hA2⟩ := dval_dn (hX.take i)
  rw [List.length_take, Nat.min_eq_left (by omega)] at hA2
  obtain ⟨C, hC, _⟩ := dval_dn (hX.drop (i + 1))
  have hx := dig_get hX i
  have e := dval_append (X.take i) (X.drop i)
  rw [List.take_append_drop, List.length_take, Nat.min_eq_left (by omega), List.drop_eq_getElem_cons h, dval, hA, hC, hV, dpw_pow] at e
  have hg : X.getD i 0 = X[i] := by simp [h]
  rw [← hg] at e
  refine ⟨A, C, hA2, ?_, hA, hC⟩
  generalize X.getD i 0 = x at *
  obtain ⟨x', rfl⟩ := Int.eq_ofNat_of_zero_le hx.1
  unfold dwB at e
  have : ((2 ^ (16 * i) * (x' + 65536 * C) : Nat) : Int) = ((2 ^ (16 * i) : Nat) : Int) * ((x' : Int) + 65536 * (C : Int)) := by rw [Int.natCast_mul]; rfl
  rw [← this] at e
  simp only [Int.toNat_natCast]
  omega
end Go.Proofs.Ytkikiddoiigbjaa

/- RPow -/
namespace Go.Proofs.Ytkikiddoiigbjaa
open Go.RowKit

/-- What the reference's calls with an error answer, where they answer. -/
def Told2 (w : World) (s : Int) (e : Ending) (w' : World) : Prop := ∃ zs r, e = .returned (.tuple #[r, .int .i64 0]) ∧ Own w.heap.size w' r zs ∧ Canon zs ∧ val zs = s ∧ Below w.heap.size w w'

theorem dpw_add : ∀ a b, dpw (a + b) = dpw a * dpw b
  | 0, b => by simp [dpw]
  | a + 1, b => by rw [show a + 1 + b = a + b + 1 by omega, dpw, dpw, dpw_add a b, Int.mul_assoc]
theorem two_split16 (n : Nat) : ((2 ^ n : Nat) : Int) = dpw (n / 16) * ((2 ^ (n % 16) : Nat) : Int) := by
  rw [dpw_pow, ← Int.natCast_mul, ← Nat.pow_add, show 16 * (n / 16) + n % 16 = n by omega]
theorem pow16_le {p : Nat} (hp : p < 16) : 1 ≤ 2 ^ p ∧ 2 ^ p ≤ 32768 := ⟨Nat.two_pow_pos p, Nat.le_trans (Nat.pow_le_pow_right (by omega) (show p ≤ 15 by omega)) (by decide)⟩

theorem ddrop_div {X : List Int} (hX : DF X) {M : Nat} (hM : M ≤ X.length) {V : Nat} (hV : dval X = (V : Int)) : dval (X.drop M) = ((V / 2 ^ (16 * M) : Nat) : Int) := by
  have e := dval_append (X.take M) (X.drop M)
  rw [List.take_append_drop, List.length_take, Nat.min_eq_left hM, dpw_pow] at e
  obtain ⟨A, hA, hA2⟩ := dval_dn (hX.take M)
  rw [List.length_take, Nat.min_eq_left hM] at hA2
  obtain ⟨C, hC, _⟩ := dval_dn (hX.drop M)
  rw [hA, hC, hV] at e
  rw [hC]
  have e2 : V = A + 2 ^ (16 * M) * C := by rw [← Int.natCast_mul] at e; omega
  rw [e2, Nat.add_mul_div_left _ _ (Nat.two_pow_pos _), Nat.div_eq_of_lt hA2]; simp
theorem div_zero_of {V n l : Nat} (h : V < 2 ^ (16 * l)) (hl : l ≤ n / 16) : V / 2 ^ n = 0 :=
  Nat.div_eq_of_lt (Nat.lt_of_lt_of_le h (Nat.pow_le_pow_right (by omega) (by omega)))
theorem div_twoP {V n : Nat} : V / 2 ^ (16 * (n / 16)) / 2 ^ (n % 16) = V / 2 ^ n := by
  rw [Nat.div_div_eq_div_mul, ← Nat.pow_add, show 16 * (n / 16) + n % 16 = n by omega]

end Go.Proofs.Ytkikiddoiigbjaa

/- RSub -/
namespace Go.Proofs.Ytkikiddoiigbjaa
open Go.RowKit

set_option maxHeartbeats 1600000 in
theorem rsub_no {w : World} {v u : Value} {xs ys : List Int} (h : Sl w.heap.size w v xs) (h' : Sl w.heap.size w u ys) (hlen : xs.length ≤ 1099511627776) (hlen' : ys.length ≤ 1099511627776) (hlt : val xs < val ys) :
    Calls Try.prog 47 #[v, u] w fun e w' => e = .returned (.tuple #[.slice none 0 0, .int .i64 3]) ∧ Below w.heap.size w w' := by
  have hneg := cmpI_neg hlt
  go_enter Try.func47, Try.ntmps47
  go_wp2_with fail
  refine (split_any h (by omega)).mono ?_
  rintro e w1 ⟨X, rx, rfl, hs, hcx, hvx, hlx, hb⟩
  have h1 := h'.now hb
  have HVX := hid hvx
  clear hvx h h'
  go_wp2_with fail
  refine (split_any h1 (by omega)).mono ?_
  rintro e w2 ⟨Y, ry, rfl, hsy, hcy, hvy, hly, hb2⟩
  have hsx := hs.now hb2
  have HVY := hid hvy
  have hb12 := hid (below_step hb hb2)
  clear hvy h1 hs hb hb2
  go_wp2_with fail
  refine (rorder_any hsx hsy hcx hcy).mono ?_
  rintro e w3 ⟨rfl, n, rfl⟩
  rw [HVX.out, HVY.out]
  generalize cmpI (val xs) (val ys) = C at *
  clear hsx hsy hcx hcy hlt
  go_wp2
  go_ret2
  exact ⟨rfl, below_drewN hb12.out n⟩

set_option maxHeartbeats 3200000 in
theorem rsub_yes {w : World} {v u : Value} {xs ys : List Int} (h : Sl w.heap.size w v xs) (h' : Sl w.heap.size w u ys) (hlen : xs.length ≤ 1099511627776) (hlen' : ys.length ≤ 1099511627776) (hge : val ys ≤ val xs) :
    Calls Try.prog 47 #[v, u] w (Told2 w (val xs - val ys)) := by
  have hneg := cmpI_nonneg hge
  have HGE := hid hge
  go_enter Try.func47, Try.ntmps47
  go_wp2_with fail
  refine (split_any h (by omega)).mono ?_
  rintro e w1 ⟨X, rx, rfl, hs, hcx, hvx, hlx, hb⟩
  have h1 := h'.now hb
  have HVX := hid hvx
  clear hvx h h'
  go_wp2_with fail
  refine (split_any h1 (by omega)).mono ?_
  rintro e w2 ⟨Y, ry, rfl, hsy, hcy, hvy, hly, hb2⟩
  have hsx := hs.now hb2
  have HVY := hid hvy
  have hb12 := hid (below_step hb hb2)
  clear hvy h1 hs hb hb2
  go_wp2_with fail
  refine (rorder_any hsx hsy hcx hcy).mono ?_
  rintro e w3 ⟨rfl, n3, rfl⟩
  rw [HVX.out, HVY.out]
  generalize cmpI (val xs) (val ys) = C at *
  have hb13 := hid (below_drewN hb12.out n3)
  have hX : SlI (w2.drewN n3).heap.size (w2.drewN n3) rx X := hsx.now (below_drewN (Below.refl _ _) n3)
  have hY : SlI (w2.drewN n3).heap.size (w2.drewN n3) ry Y := hsy.now (below_drewN (Below.refl _ _) n3)
  have HWW : Hid (Y.length ≤ X.length) := by
    unfold Hid
    by_cases q : X.length < Y.length
    · have := dval_wid_lt hcx.1 hcy.1 (by rw [hcx.2, hcy.2]; exact q)
      rw [HVX.out, HVY.out] at this; omega
    · omega
  clear hsx hsy hge hb12
  generalize w2.drewN n3 = w3 at *
  obtain ⟨hxi, ax, capx, rfl, hlcx, hcmx, hmx⟩ := id hX
  obtain ⟨-, ay, capy, rfl, -, -, -⟩ := id hY
  have HM := hid hmx
  have HY := hid hY
  have HCX := hid hcx.1
  have HCY := hid hcy.1
  clear hX hY hcx hcy hmx hxi
  obtain ⟨n, hn⟩ : ∃ n, n = X.length := ⟨_, rfl⟩
  have hn3 : n ≤ 4398046511104 := by omega
  have HZ := hid (zeros_d n)
  rw [← hn] at hlcx
  rw [← hn]
  have HN := hid hn
  clear hn
  go_wp2_with (at_make; refine wpList_make_ints _ rfl _ _ rfl _ _ n n rfl rfl (by omega) (by omega) (Nat.le_refl _) (by omega) ?_)
  intro w4 hrow hb4 hsz4
  have hhs : w3.heap.size < w4.heap.size := by have := hsz4.out; omega
  have HV0 : Hid (dval (List.replicate n 0) - dpw 0 * 0 = dval (X.take 0) - dval (Y.take 0)) := by unfold Hid; rw [HZ.out.2]; simp [dval]
  clear hsz4
  go_wp2_with fail
  go_loopw [9, 10] (fun c i wr => ∃ (k : Nat) (zs : List Int) (cc : Int), k ≤ n ∧ i = .int .i64 k ∧ c = .int .i64 cc ∧ 0 ≤ cc ∧ cc ≤ 1 ∧ Hid (zs.length = n) ∧ Hid (DF zs) ∧ Hid (∀ j (h : j < zs.length), k ≤ j → zs[j] = 0) ∧
      Hid (dval zs - dpw k * cc = dval (X.take k) - dval (Y.take k)) ∧ RowI wr w3.heap.size (wi zs) ∧ Below w3.heap.size w3 wr ∧ w3.heap.size < wr.heap.size) (fun _ i _ => n - (intOf i).toNat)
  case atStart => exact ⟨0, _, 0, Nat.zero_le _, rfl, rfl, by omega, by omega, (by unfold Hid; simp), HZ.out.1, (fun j h _ => by simp), HV0, hrow, hb4, hhs⟩
  case round =>
    clear HV0 hrow hb4 hhs HZ
    obtain ⟨k, zs, cc, hk, rfl, rfl, hc0, hc1, HL, HD, HZ, HV, hr, hb, hhs⟩ := hrel
    by_cases hkn : k < n
    · have hk1 : k < zs.length := by have := HL.out; omega
      have hkX : k < X.length := by have := HN.out; omega
      have hz0 : zs[k] = 0 := HZ.out k hk1 (Nat.le_refl _)
      have hx := dig_get HCX.out k
      have hy := dig_get HCY.out k
      have HTX := hid (dtake_next X k)
      have HTY := hid (dtake_next Y k)
      have HAY := hid (fun q => at_any (HY.out.below (below_drewN hb q)) k)
      rcases HM.out with e | ⟨b, off, rfl, hbg, hc⟩
      · subst e; simp at hkX
      have cx : wr.cell? ⟨b, off + k, none⟩ = some (.int .i64 (X.getD k 0)) := by
        rw [show X.getD k 0 = X[k] by simp [hkX]]
        exact (hb.cell (p := ⟨b, off + k, none⟩) hbg).trans (hc k hkX)
      have cf : wr.frozen? ⟨w3.heap.size, k, none⟩ = false := hr.frozen _
      have c1 : wr.cell? ⟨w3.heap.size, k, none⟩ = some (.int .i64 zs[k]) := RowI.num (r := []) (by simpa using hr) hk1
      generalize X.getD k 0 = x at *
      generalize Y.getD k 0 = y at *
      obtain ⟨hx0, hx1⟩ := hx
      obtain ⟨hy0, hy1⟩ := hy
      have i0 : (0 : Int) ≤ (k : Int) := by omega
      have i1 : (k : Int) < (n : Int) := by omega
      have hwr1 : IntKind.i64.wrap (x - y) = x - y := wrap_is (by omega) (by omega)
      have hwr2 : IntKind.i64.wrap (x - y - cc) = x - y - cc := wrap_is (by omega) (by omega)
      clear hc hkX
      have fin : ∀ (s d : Int), 0 ≤ s → s ≤ 65535 → 0 ≤ d → d ≤ 1 → s - 65536 * d = x - y - cc → ∀ q, (∃ zs' : List Int, Hid (zs'.length = n) ∧ Hid (DF zs') ∧ Hid (∀ j (h : j < zs'.length), k + 1 ≤ j → zs'[j] = 0) ∧
          Hid (dval zs' - dpw (k + 1) * d = dval (X.take (k + 1)) - dval (Y.take (k + 1))) ∧ RowI ((wr.drewN q).setCell ⟨w3.heap.size, k, none⟩ (.int .i64 s)) w3.heap.size (wi zs') ∧ Below w3.heap.size w3 ((wr.drewN q).setCell ⟨w3.heap.size, k, none⟩ (.int .i64 s)) ∧ w3.heap.size < ((wr.drewN q).setCell ⟨w3.heap.size, k, none⟩ (.int .i64 s)).heap.size) := by
        intro s d hs0 hs1 hd0 hd1 he q
        have HR := RowI.setNum (r := []) (by simpa using (show RowI (wr.drewN q) w3.heap.size (wi zs) from hr)) hk1 s
        refine ⟨zs.set k s, ?_, HD.out.set k (by unfold IsD dwB; omega), fun j h hj => ?_, ?_, by simpa using HR, (below_drewN hb q).setCell (p := ⟨w3.heap.size, k, none⟩) (Nat.le_refl _) _, by simpa using hhs⟩
        · unfold Hid; rw [List.length_set]; exact HL.out
        · rw [List.getElem_set_ne (by omega)]; exact HZ.out j (by simpa using h) (by omega)
        · have q1 := dborrow_step (xs := []) (ysT := dval (Y.take k) - dval (X.take k)) (ysT' := dval (Y.take (k + 1)) - dval (X.take (k + 1))) (p := dpw (k + 1)) (y := y - x) (s := s) (d := d) (c := cc) hk1 (by rw [HV.out]; simp [dval]; omega) (by rw [HTX.out, HTY.out, Int.sub_mul]; omega) (by rw [hz0]; unfold dwB; omega) rfl
          unfold Hid; rw [q1]; simp [dval]; omega
      have FIN := hid fin
      clear fin hr hb HL HD HZ HV hhs
      generalize zs[k] = z at *
      by_cases hsn : x - y - cc < 0
      · go_wp2_with fail
        go_quiet ((go_at_call 69; exact Calls.quiet_of_same (HAY.out _)))
        go_wp2
        obtain ⟨zs', f1, f2, f3, f4, f5, f6, f7⟩ := FIN.out (x - y - cc + 65536) 1 (by omega) (by omega) (by omega) (by omega) (by omega) nq
        go_roundw
        case rel => exact ⟨k + 1, zs', 1, by omega, by go_num, rfl, by omega, by omega, f1, f2, f3, f4, f5, f6, f7⟩
        case measure => simp [intOf]; omega
      · go_wp2_with fail
        go_quiet ((go_at_call 69; exact Calls.quiet_of_same (HAY.out _)))
        go_wp2
        obtain ⟨zs', f1, f2, f3, f4, f5, f6, f7⟩ := FIN.out (x - y - cc) 0 (by omega) (by omega) (by omega) (by omega) (by omega) nq
        go_roundw
        case rel => exact ⟨k + 1, zs', 0, by omega, by go_num, rfl, by omega, by omega, f1, f2, f3, f4, f5, f6, f7⟩
        case measure => simp [intOf]; omega
    · obtain rfl : k = n := by omega
      have hv : dval zs - dpw k * cc = dval X - dval Y := by
        have q := HV.out
        rwa [List.take_of_length_le (by have := HN.out; omega), List.take_of_length_le (by have := HN.out; have := HWW.out; omega)] at q
      have hcc : cc = 0 := by
        have h1 := dval_lt_pw HD.out
        rw [HL.out] at h1
        have h2 := HGE.out
        rw [← HVX.out, ← HVY.out] at h2
        by_cases q : cc = 0
        · exact q
        · have : cc = 1 := by omega
          rw [this] at hv; omega
      have HV' : Hid (dval zs = val xs - val ys) := by unfold Hid; rw [hcc] at hv; rw [← HVX.out, ← HVY.out]; omega
      have hsz := RowI.sl (r := []) (by simpa using hr) (ints_of_df HD.out) (cap := k) (by rw [HL.out]; exact Nat.le_refl _) (by omega) hhs
      rw [HL.out] at hsz
      have HJ := hid (join_any hsz HD.out)
      have HBB := hid (below_step hb13.out hb)
      clear hsz hr hb hv hcc HV HL
      go_wp2_with fail
      refine HJ.out.mono ?_
      rintro e w5 ⟨qs, q, rfl, ho, hcz, hvz, hb5⟩
      have HVZ := hid hvz
      clear hvz
      go_wp2
      go_ret2
      exact ⟨qs, q, rfl, ho.from HBB.out.size, hcz, by rw [HVZ.out, HV'.out], below_step HBB.out hb5⟩
end Go.Proofs.Ytkikiddoiigbjaa
