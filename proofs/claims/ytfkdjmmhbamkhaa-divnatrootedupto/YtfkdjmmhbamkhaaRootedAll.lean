/-
  RootedAll: RAdd, RLen, Square, Fresh, Pow, Strip, AtMost, Power, StepDown, BitPure, BitStep, BitByBit, RootPure, Onto, RootAny, RootAll, AtMostNo, AtMostIs, RootedLaw, joined.
-/
import Derived.Test.YtfkdjmmhbamkhaaJoin
import Derived.Test.YtfkdjmmhbamkhaaRLeast
import Derived.Test.YtfkdjmmhbamkhaaLen2
import Derived.Test.YtfkdjmmhbamkhaaMulAll
import Derived.Test.YtfkdjmmhbamkhaaTrim
import Derived.Laws.AppendOwn
import Derived.Laws.AppendOwnNone
import Derived.Test.YtfkdjmmhbamkhaaExact
import Derived.Test.YtfkdjmmhbamkhaaWakes3
import Derived.Test.YtfkdjmmhbamkhaaRMul
import Derived.Deep.LoopGhost
import Derived.Test.YtfkdjmmhbamkhaaDivMod
import Derived.Test.YtfkdjmmhbamkhaaMWord
import Derived.BigQuiet
namespace Go.Proofs.Ytfkdjmmhbamkhaa
open Go.RowKit
set_option linter.unusedVariables false

/- RAdd -/

theorem dig_get {D : List Int} (h : DF D) (k : Nat) : 0 ≤ D.getD k 0 ∧ D.getD k 0 ≤ 65535 := by
  by_cases hk : k < D.length
  · have hx := h.get hk
    unfold IsD dwB at hx
    rw [show D.getD k 0 = D[k] by simp [hk]]; omega
  · rw [show D.getD k 0 = 0 by simp [show D.length ≤ k by omega]]; omega
theorem dtake_next (D : List Int) (k : Nat) : dval (D.take (k + 1)) = dval (D.take k) + D.getD k 0 * dpw k := by
  by_cases hk : k < D.length
  · rw [dval_take_succ D k hk, show D.getD k 0 = D[k] by simp [hk]]
  · rw [show D.getD k 0 = 0 by simp [show D.length ≤ k by omega], List.take_of_length_le (by omega), List.take_of_length_le (by omega)]; simp
theorem zeros_d (n : Nat) : DF (List.replicate n 0) ∧ dval (List.replicate n 0) = 0 := by
  have h : DF (List.replicate n 0) := fun x hx => by rw [List.eq_of_mem_replicate hx]; unfold IsD dwB; omega
  refine ⟨h, ?_⟩
  induction n with
  | zero => rfl
  | succ n ih => rw [List.replicate_succ, dval, ih (fun x hx => h x (by rw [List.replicate_succ]; simp [hx]))]; simp
theorem Own.from {B B' : Nat} {w : World} {v : Value} {zs : List Int} (h : Own B w v zs) (hB : B' ≤ B) : Own B' w v zs := by
  refine ⟨h.1, ?_⟩
  rcases h.2 with h1 | ⟨g, r', h1, h2, h3, h4⟩
  · exact .inl h1
  · exact .inr ⟨g, r', Nat.le_trans hB h1, h2, h3, h4⟩
theorem ints_of_df {D : List Int} (h : DF D) : ∀ p ∈ D, -9223372036854775808 ≤ p ∧ p ≤ 9223372036854775807 := fun p hp => by have := h p hp; unfold IsD dwB at this; omega

set_option maxHeartbeats 3200000 in
theorem radd_any {w : World} {v u : Value} {xs ys : List Int} (h : Sl w.heap.size w v xs) (h' : Sl w.heap.size w u ys) (hlen : xs.length ≤ 1099511627776) (hlen' : ys.length ≤ 1099511627776) :
    Calls Try.prog 11 #[v, u] w (Told w (val xs + val ys)) := by
  go_enter Try.func11, Try.ntmps11
  go_wp2_with fail
  refine (split_any h (by omega)).mono ?_
  rintro e w1 ⟨X, rx, rfl, hs, hcx, hvx, hlx, hb⟩
  have h1 := h'.now hb
  have HVX := hid hvx
  clear hvx h h'
  go_wp2_with fail
  refine (split_any h1 (by omega)).mono ?_
  rintro e w2 ⟨Y, ry, rfl, hsy, hcy, hvy, hly, hb2⟩
  have hsx := hs.now hb2
  have HVY := hid hvy
  have hb12 := hid (below_step hb hb2)
  clear hvy h1 hs hb hb2
  have hX := hsx
  have hY := hsy
  obtain ⟨-, ax, capx, rfl, -, -, -⟩ := hsx
  obtain ⟨-, ay, capy, rfl, -, -, -⟩ := hsy
  have HX := hid hX
  have HY := hid hY
  have HCX := hid hcx.1
  have HCY := hid hcy.1
  clear hX hY hcx hcy
  obtain ⟨n, hn⟩ : ∃ n, n = max X.length Y.length := ⟨_, rfl⟩
  have hn1 : X.length ≤ n := by omega
  have hn2 : Y.length ≤ n := by omega
  have hn3 : n ≤ 4398046511104 := by omega
  have HZ := hid (zeros_d (n + 1))
  by_cases hlt : (X.length : Int) < (Y.length : Int)
  focus
    obtain rfl : n = Y.length := by omega
    clear hn
    go_wp2_with (at_make; refine wpList_make_ints _ rfl _ _ rfl _ _ (Y.length + 1) (Y.length + 1) rfl rfl (by omega) (by omega) (Nat.le_refl _) (by omega) ?_)
    generalize hN : Y.length = n at *
    have HNN : Hid (X.length ≤ n ∧ Y.length ≤ n) := ⟨by omega, by omega⟩
    clear hN
  rotate_left
  focus
    obtain rfl : n = X.length := by omega
    clear hn
    go_wp2_with (at_make; refine wpList_make_ints _ rfl _ _ rfl _ _ (X.length + 1) (X.length + 1) rfl rfl (by omega) (by omega) (Nat.le_refl _) (by omega) ?_)
    generalize hN : X.length = n at *
    have HNN : Hid (X.length ≤ n ∧ Y.length ≤ n) := ⟨by omega, by omega⟩
    clear hN
  rotate_left
  all_goals
    intro w3 hrow hb3 hsz3
    have hhs : w2.heap.size < w3.heap.size := by have := hsz3.out; omega
    have HV0 : Hid (dval (List.replicate (n + 1) 0) + dpw 0 * 0 = dval (X.take 0) + dval (Y.take 0)) := by unfold Hid; rw [HZ.out.2]; simp [dval]
    clear hsz3
    go_wp2_with fail
    go_loopw [9, 10] (fun c i wr => ∃ (k : Nat) (zs : List Int) (cc : Int), k ≤ n ∧ i = .int .i64 k ∧ c = .int .i64 cc ∧ 0 ≤ cc ∧ cc ≤ 1 ∧ Hid (zs.length = n + 1) ∧ Hid (DF zs) ∧ Hid (∀ j (h : j < zs.length), k ≤ j → zs[j] = 0) ∧
        Hid (dval zs + dpw k * cc = dval (X.take k) + dval (Y.take k)) ∧ RowI wr w2.heap.size (wi zs) ∧ Below w2.heap.size w2 wr ∧ w2.heap.size < wr.heap.size) (fun _ i _ => n - (intOf i).toNat)
    case atStart => exact ⟨0, _, 0, Nat.zero_le _, rfl, rfl, by omega, by omega, (by unfold Hid; simp), HZ.out.1, (fun j h _ => by simp), HV0, hrow, hb3, hhs⟩
    case round =>
      clear HV0 hrow hb3 hhs HZ
      obtain ⟨k, zs, cc, hk, rfl, rfl, hc0, hc1, HL, HD, HZ, HV, hr, hb, hhs⟩ := hrel
      by_cases hkn : k < n
      · have hk1 : k < zs.length := by have := HL.out; omega
        have hz0 : zs[k] = 0 := HZ.out k hk1 (Nat.le_refl _)
        have hx := dig_get HCX.out k
        have hy := dig_get HCY.out k
        have HTX := hid (dtake_next X k)
        have HTY := hid (dtake_next Y k)
        have HAX := hid (at_any (HX.out.below hb) k)
        have HAY := hid (at_any (HY.out.below hb) k)
        have cf : wr.frozen? ⟨w2.heap.size, k, none⟩ = false := hr.frozen _
        have c1 : wr.cell? ⟨w2.heap.size, k, none⟩ = some (.int .i64 zs[k]) := RowI.num (r := []) (by simpa using hr) hk1
        generalize X.getD k 0 = x at *
        generalize Y.getD k 0 = y at *
        obtain ⟨hx0, hx1⟩ := hx
        obtain ⟨hy0, hy1⟩ := hy
        have HR := RowI.setNum (r := []) (by simpa using hr) hk1 ((x + y + cc) % 65536)
        have HB := hb.setCell (p := ⟨w2.heap.size, k, none⟩) (Nat.le_refl _) (.int .i64 ((x + y + cc) % 65536))
        have HV' := hid (dcarry_step (xs := []) (ysT := dval (X.take k) + dval (Y.take k)) (ysT' := dval (X.take (k + 1)) + dval (Y.take (k + 1))) (p := dpw (k + 1)) (y := x + y) (s := (x + y + cc) % 65536) (d := (x + y + cc) / 65536) (c := cc) hk1 (by rw [HV.out]; simp [dval]) (by rw [HTX.out, HTY.out, Int.add_mul]; omega) (by rw [hz0]; unfold dwB; omega) rfl)
        have HD' : Hid (DF (zs.set k ((x + y + cc) % 65536))) := HD.out.set k (by unfold IsD dwB; omega)
        have HZ' : Hid (∀ j (h : j < (zs.set k ((x + y + cc) % 65536)).length), k + 1 ≤ j → (zs.set k ((x + y + cc) % 65536))[j] = 0) := fun j h hj => by
          rw [List.getElem_set_ne (by omega)]; exact HZ.out j (by simpa using h) (by omega)
        have HL' : Hid ((zs.set k ((x + y + cc) % 65536)).length = n + 1) := by unfold Hid; rw [List.length_set]; exact HL.out
        have hhs' : w2.heap.size < (wr.setCell ⟨w2.heap.size, k, none⟩ (.int .i64 ((x + y + cc) % 65536))).heap.size := by simpa using hhs
        clear hr hb HL HD HZ HV hhs
        generalize zs[k] = z at *
        go_wp2_with fail
        refine HAX.out.mono ?_
        rintro e w4 ⟨rfl, rfl⟩
        go_wp2_with fail
        refine HAY.out.mono ?_
        rintro e w5 ⟨rfl, rfl⟩
        clear HAX HAY
        go_wp2
        go_roundw
        case rel => exact ⟨k + 1, _, _, by omega, by go_num, rfl, by omega, by omega, HL', HD', HZ', (by unfold Hid; simpa [dval] using HV'.out), (by simpa using HR), HB, hhs'⟩
        case measure => simp [intOf]; omega
      · obtain rfl : k = n := by omega
        have hk1 : k < zs.length := by have := HL.out; omega
        have hz0 : zs[k] = 0 := HZ.out k hk1 (Nat.le_refl _)
        have cf : wr.frozen? ⟨w2.heap.size, k, none⟩ = false := hr.frozen _
        have c1 : wr.cell? ⟨w2.heap.size, k, none⟩ = some (.int .i64 zs[k]) := RowI.num (r := []) (by simpa using hr) hk1
        have HR := RowI.setNum (r := []) (by simpa using hr) hk1 cc
        have HB := hb.setCell (p := ⟨w2.heap.size, k, none⟩) (Nat.le_refl _) (.int .i64 cc)
        have HD' : Hid (DF (zs.set k cc)) := HD.out.set k (by unfold IsD dwB; omega)
        have HV' : Hid (dval (zs.set k cc) = val xs + val ys) := by
          unfold Hid
          rw [dval_set zs k cc hk1, hz0, ← HVX.out, ← HVY.out]
          have := HV.out
          rw [List.take_of_length_le HNN.out.1, List.take_of_length_le HNN.out.2] at this
          rw [Int.sub_zero, Int.mul_comm]; exact this
        have HL' : Hid ((zs.set k cc).length = k + 1) := by unfold Hid; rw [List.length_set]; exact HL.out
        have hhs' : w2.heap.size < (wr.setCell ⟨w2.heap.size, k, none⟩ (.int .i64 cc)).heap.size := by simpa using hhs
        clear hr hb HL HD HZ HV hhs
        generalize zs.set k cc = Z at *
        generalize zs[k] = z at *
        have hR : RowI (wr.setCell ⟨w2.heap.size, k, none⟩ (.int .i64 cc)) w2.heap.size (wi Z) := by simpa using HR
        have hsz := RowI.sl (r := []) (by simpa using hR) (ints_of_df HD'.out) (cap := k + 1) (by rw [HL'.out]; exact Nat.le_refl _) (by omega) hhs'
        rw [HL'.out] at hsz
        have HJ := hid (join_any hsz HD'.out)
        have HBB := hid (below_step hb12.out HB)
        clear hsz hR HR HB
        go_wp2_with fail
        refine HJ.out.mono ?_
        rintro e w4 ⟨qs, q, rfl, ho, hcz, hvz, hb5⟩
        have HVZ := hid hvz
        clear hvz
        go_wp2
        go_ret
        exact ⟨qs, q, rfl, ho.from HBB.out.size, hcz, by rw [HVZ.out, HV'.out], below_step HBB.out hb5⟩

/- RLen -/

theorem dpw_pow : ∀ k, dpw k = ((2 ^ (16 * k) : Nat) : Int)
  | 0 => rfl
  | k + 1 => by rw [dpw, dpw_pow k, show 16 * (k + 1) = 16 + 16 * k by omega, Nat.pow_add]; unfold dwB; omega
theorem dval_dn {X : List Int} (hX : DF X) : ∃ V : Nat, dval X = (V : Int) ∧ V < 2 ^ (16 * X.length) := by
  have h0 := dval_nonneg hX
  have h1 := dval_lt_pw hX
  rw [dpw_pow] at h1
  obtain ⟨V, hV⟩ := Int.eq_ofNat_of_zero_le h0
  exact ⟨V, hV, by rw [hV] at h1; omega⟩
/-- The number of a list of digits taken apart at one of them. -/
theorem at_digit {X : List Int} (hX : DF X) {i : Nat} (h : i < X.length) {V : Nat} (hV : dval X = (V : Int)) : ∃ A C : Nat, A < 2 ^ (16 * i) ∧ V = A + 2 ^ (16 * i) * ((X.getD i 0).toNat + 65536 * C) ∧ dval (X.take i) = (A : Int) ∧ dval (X.drop (i + 1)) = (C : Int) := by
  obtain ⟨A, hA, hA2⟩ := dval_dn (hX.take i)
  rw [List.length_take, Nat.min_eq_left (by omega)] at hA2
  obtain ⟨C, hC, _⟩ := dval_dn (hX.drop (i + 1))
  have hx := dig_get hX i
  have e := dval_append (X.take i) (X.drop i)
  rw [List.take_append_drop, List.length_take, Nat.min_eq_left (by omega), List.drop_eq_getElem_cons h, dval, hA, hC, hV, dpw_pow] at e
  have hg : X.getD i 0 = X[i] := by simp [h]
  rw [← hg] at e
  refine ⟨A, C, hA2, ?_, hA, hC⟩
  generalize X.getD i 0 = x at *
  obtain ⟨x', rfl⟩ := Int.eq_ofNat_of_zero_le hx.1
  unfold dwB at e
  have : ((2 ^ (16 * i) * (x' + 65536 * C) : Nat) : Int) = ((2 ^ (16 * i) : Nat) : Int) * ((x' : Int) + 65536 * (C : Int)) := by rw [Int.natCast_mul]; rfl
  rw [← this] at e
  simp only [Int.toNat_natCast]
  omega
theorem bitLen_half {v : Nat} (h : v ≠ 0) : bitLen v = bitLen (v / 2) + 1 := by
  by_cases h1 : v / 2 = 0
  · have : v = 1 := by omega
    subst this; rfl
  · rw [bitLen_shift v 1 (by simpa using h1), Nat.pow_one]; omega
theorem bitLen_digits {X : List Int} (hX : DCanon X) {N : Nat} (hN : X.length = N + 1) {V : Nat} (hV : dval X = (V : Int)) : bitLen V = 16 * N + bitLen (X.getD N 0).toNat := by
  obtain ⟨A, C, hA, hVe, _, hC⟩ := at_digit hX.1 (i := N) (by omega) hV
  rw [List.drop_of_length_le (by omega)] at hC
  have hC0 : C = 0 := by simp [dval] at hC; omega
  obtain ⟨h1, h2⟩ := dwid_top (show dwid X = N + 1 by rw [hX.2]; exact hN)
  have hx := dig_get hX.1 N
  have hg : X.getD N 0 = X[N] := by simp [h1]
  rw [hVe, hC0, Nat.mul_zero, Nat.add_zero, bitLen_top hA (by rw [hg] at hx ⊢; omega)]
set_option maxHeartbeats 1600000 in
theorem rbitLen_any {w : World} {v : Value} {xs : List Int} (h : Sl w.heap.size w v xs) (hlen : xs.length ≤ 1099511627776) :
    Calls Try.prog 24 #[v] w fun e w' => e = .returned (.int .i64 (bitLen (vn xs) : Int)) ∧ Below w.heap.size w w' := by
  have hvn := hid (val_vn h.1)
  generalize hS : bitLen (vn xs) = S
  have HS := hid hS
  clear hS
  go_enter Try.func24, Try.ntmps24
  go_wp2_with fail
  refine (split_any h (by omega)).mono ?_
  rintro e w1 ⟨X, rx, rfl, hs, hcx, hvx, hlx, hb⟩
  have HVX : Hid (dval X = (vn xs : Int)) := by unfold Hid; rw [hvx]; exact hvn.out
  have HB := hid hb
  clear hvx h hb
  obtain ⟨-, ax, capx, rfl, hlcx, hcmx, hmx⟩ := hs
  by_cases hx0 : X.length = 0
  · have hX : X = [] := List.eq_nil_of_length_eq_zero hx0
    have hz : ((X.length : Int) == 0) = true := by rw [beq_iff_eq]; omega
    have HE : Hid (S = 0) := by
      unfold Hid
      have q := HVX.out
      rw [hX] at q
      have : vn xs = 0 := by simp [dval] at q; omega
      rw [← HS.out, this]; rfl
    clear hX hmx hcx
    go_wp2
    go_ret
    exact ⟨by rw [HE.out]; rfl, HB.out⟩
  · obtain ⟨N, hN⟩ : ∃ N, X.length = N + 1 := ⟨X.length - 1, by omega⟩
    rcases hmx with e | ⟨b, off, rfl, hbg, hc⟩
    · subst e; simp at hN
    have hz : (((N + 1 : Nat) : Int) == 0) = false := by rw [beq_eq_false_iff_ne]; omega
    have HBL := hid (bitLen_digits hcx hN HVX.out)
    have hx := dig_get hcx.1 N
    have cx : w1.cell? ⟨b, off + N, none⟩ = some (.int .i64 (X.getD N 0)) := by rw [hc N (by omega)]; simp [show N < X.length by omega]
    rw [hN] at hlcx
    rw [hN]
    generalize X.getD N 0 = x at *
    obtain ⟨hx1, hx2⟩ := hx
    have hNb : N ≤ 4398046511104 := by omega
    clear hc hx0 hcx hN hlx
    go_wp2_with fail
    go_loop [4, 5] (fun k y => ∃ (c W : Nat), c ≤ 65536 ∧ k = .int .i64 ((16 * N + c : Nat) : Int) ∧ y = .int .i64 (W : Int) ∧ W + c ≤ 65536 ∧ Hid (S = 16 * N + c + bitLen W)) (fun _ y => (intOf y).toNat)
    case atStart => exact ⟨0, x.toNat, by omega, (by go_num), (by rw [Int.toNat_of_nonneg hx1]), by omega, (by unfold Hid; rw [← HS.out, HBL.out, Nat.add_zero])⟩
    case round =>
      obtain ⟨c, W, hcb, rfl, rfl, hW, HI⟩ := hrel
      by_cases hW0 : W = 0
      · subst hW0
        go_wp2
        go_ret
        refine ⟨congrArg Ending.returned (congrArg (Value.int IntKind.i64) ?_), HB.out⟩
        rw [HI.out]; simp [bitLen]
      · have HI2 : Hid (S = 16 * N + (c + 1) + bitLen (W / 2)) := by unfold Hid; rw [HI.out, bitLen_half hW0]; omega
        have hWp : (0 : Int) < (W : Int) := by omega
        clear HI
        go_wp2
        go_round
        case rel => exact ⟨c + 1, W / 2, by omega, by go_num, by go_num, by omega, HI2⟩
        case measure => simp [intOf]; omega


/- Square -/

theorem square_any {w : World} {va : Value} {xs : List Int} (ha : Sl w.heap.size w va xs) (hl : xs.length + xs.length ≤ 35184372088832) :
    Calls Try.prog 44 #[va] w (Makes w (val xs * val xs)) := by
  have HM := hid (mul_any ha ha hl)
  clear ha
  go_enter Try.func44, Try.ntmps44
  go_wp2_with fail
  refine HM.out.mono ?_
  rintro e w1 ⟨zs, r, rfl, m1, m2, m3, m4⟩
  go_wp2
  go_ret
  exact ⟨zs, r, rfl, m1, m2, m3, m4⟩
theorem square_now {w : World} {va : Value} {xs : List Int} (ha : Sl w.heap.size w va xs) (hl : xs.length + xs.length ≤ 35184372088832) :
    Calls Try.prog 44 #[va] w (Gives w (val xs * val xs) (xs.length + xs.length)) := (square_any ha hl).mono fun _ _ h => h.gives (val_mul_lt ha.1 ha.1)

/- Fresh -/

theorem mine_of_owns {B : Nat} {w : World} {v : Value} {xs : List Int} (hw : WF xs) (hl : xs.length ≤ 35184372088832) (h : w.ownsRow B 26 1 v xs.length (ws xs)) : Mine B w v xs := by
  obtain ⟨_, ⟨h1, h2⟩ | ⟨g, cap, cur, h1, h2, h3, h4, h5, h6, h7⟩⟩ := h
  · exact ⟨hw, .inl ⟨h1, List.eq_nil_of_length_eq_zero h2⟩⟩
  · rw [Nat.mul_one] at h6 h7
    refine ⟨hw, .inr ⟨g, cur.toList.drop xs.length, cap, h2, hl, h4, ?_, h1, ?_⟩⟩
    · have e : cur.toList.length = cur.size := Array.length_toList
      rw [List.length_drop, e]; omega
    · unfold Row
      rw [← h7, List.take_append_drop, Array.toArray_toList]
      exact h3

theorem wpList_append_fresh (w : World) {ops : Array Oper} {rest : List Oper} {o : Oper} {a : Act} {Q : Exit → Act → World → Prop}
    (hg : o.guard = none) (s x : Operand) (hop : o.op = Op.call { callee := Callee.builtin Builtin.append, args := #[s, x], argTypes := #[25, 25] })
    (g : Nat) (v : Value) (xs : List Int) (hs : a.eval s = .slice (some ⟨g, 0, none⟩) 0 0) (hrow : Row w g []) (hx : a.eval x = v) (B : Nat) (hsl : Sl B w v xs) (hnil : v = .slice none 0 0 ∨ ∃ ad n c, v = .slice (some ad) n c) (hmx : xs.length ≤ 17592186044416)
    (hK : ∀ v' w', Hid (Mine g w' v' xs) → Below g w w' → wpList Try.prog ops Q rest (a.put o.dst v') w') :
    wpList Try.prog ops Q (o :: rest) a w := by
  obtain ⟨i, hi, hz, hsz, hb⟩ := info_parts Try.infoW
  have hown : w.ownsRow g 26 1 (.slice (some ⟨g, 0, none⟩) 0 0) 0 [] :=
    ⟨by simp, .inr ⟨g, 0, #[], rfl, Nat.le_refl _, hrow, Nat.le_refl _, Nat.zero_le _, by simp, by simp⟩⟩
  obtain ⟨hw, ad, cap, rfl, hlc, hcm, hm⟩ := hsl
  rcases hnil with e | ⟨ad', n', c', e⟩
  · simp only [Value.slice.injEq] at e
    obtain ⟨rfl, e2, rfl⟩ := e
    obtain rfl : xs = [] := List.eq_nil_of_length_eq_zero e2
    refine wpList_append_own_none hg s x 25 hop g 26 i 1 Try.underlying25 hi _ 0 [] hs hown hx ?_
    exact hK _ w (mine_of_owns WF.nil (by simp) hown) (Below.refl _ _)
  · simp only [Value.slice.injEq] at e
    obtain ⟨rfl, rfl, rfl⟩ := e
    refine wpList_append_own w hg s x 25 hop g 26 i (.int .u64 0) 1 8 Try.underlying25 hi hz hsz hb rfl (by omega) _ 0 [] hs hown ad' xs.length cap (ws xs) hx (by rw [length_ws]; omega) ?_ ?_ (by unfold maxLen; omega) (by omega) (Nat.le_of_lt hrow.lt) ?_
    · intro j u hj
      have hj' : j < xs.length := by
        have := (List.getElem?_eq_some_iff.1 hj).1
        simpa [length_ws] using this
      rcases hm with rfl | ⟨b, off, h1, h2, h3⟩
      · simp at hj'
      · simp only [Option.some.injEq] at h1
        subst h1
        have e : (⟨b, off, none⟩ : Addr).add j = ⟨b, off + j, none⟩ := by unfold Addr.add; split <;> simp_all
        rw [e, h3 j hj', ← hj]
        simp [ws, hj']
    · intro u hu
      simp only [ws, List.mem_map] at hu
      obtain ⟨y, _, rfl⟩ := hu
      rfl
    · intro v' w' ho hgr _
      rw [Nat.zero_add, List.nil_append] at ho
      exact hK v' w' (mine_of_owns hw hcm ho) ((Below.refl _ _).grown hgr (Nat.le_of_lt hrow.lt) (fun k hk => by simp [Value.ownBlock] at hk; omega))

/- Pow -/

theorem pow_le_pw {X : Int} {L : Nat} (h0 : 0 ≤ X) (h : X < pw L) : ∀ e : Nat, 0 ≤ X ^ e ∧ X ^ e ≤ pw (L * e)
  | 0 => by simp [pw]
  | e + 1 => by
    obtain ⟨h1, h2⟩ := pow_le_pw h0 h e
    rw [Int.pow_succ, Nat.mul_add, pw_plus, Nat.mul_one]
    exact ⟨Int.mul_nonneg h1 h0, Int.mul_le_mul h2 (Int.le_of_lt h) h0 (Int.le_of_lt (pw_pos _))⟩
theorem pow_len {X : Int} {L e : Nat} {zs : List Int} (h0 : 0 ≤ X) (h : X < pw L) (hz : Canon zs) (hv : val zs = X ^ e) : zs.length ≤ L * e + 1 := by
  refine canon_len hz ?_
  have h1 := (pow_le_pw h0 h e).2
  have h2 := pw_pos (L * e)
  rw [hv, pw]
  unfold wB
  omega
theorem bits_and_i64 (a b : Nat) (ha : a < 9223372036854775808) (hb : b < 9223372036854775808) : bits .and .i64 (a : Int) (b : Int) = ((a &&& b : Nat) : Int) := by
  have hx : a &&& b ≤ a := Nat.and_le_left
  have h1 : (BitVec.ofInt 64 (a : Int)).toNat = a := by
    rw [BitVec.ofInt_natCast, BitVec.toNat_ofNat]; exact Nat.mod_eq_of_lt (by omega)
  have h2 : (BitVec.ofInt 64 (b : Int)).toNat = b := by
    rw [BitVec.ofInt_natCast, BitVec.toNat_ofNat]; exact Nat.mod_eq_of_lt (by omega)
  show IntKind.i64.wrap ((BitVec.ofInt 64 (a : Int) &&& BitVec.ofInt 64 (b : Int)).toNat : Int) = _
  rw [BitVec.toNat_and, h1, h2, IntKind.wrap_i64]
  omega
theorem bit_i64 (n k : Nat) (hn : n ≤ 256) : bits BinOp.and IntKind.i64 ((n : Int) / 2 ^ k) 1 = ((n / 2 ^ k % 2 : Nat) : Int) := by
  have e : (n : Int) / 2 ^ k = ((n / 2 ^ k : Nat) : Int) := by simp
  have hd : n / 2 ^ k ≤ n := Nat.div_le_self _ _
  rw [e, show (1 : Int) = ((1 : Nat) : Int) from rfl, bits_and_i64 _ 1 (by omega) (by omega), Nat.and_one_is_mod]

theorem bitsLen_any {x : Int} (hx : IsW x) (w : World) : Calls Try.prog 74 #[.int .u64 x] w fun e w' => e = .returned (.int .i64 (bitLen x.toNat : Int)) ∧ w' = w := by
  have HL := hid (len64_any hx w)
  go_enter Try.func74, Try.ntmps74
  go_wp2_with fail
  refine HL.out.mono ?_
  rintro e w1 ⟨rfl, rfl⟩
  go_wp2
  go_ret
  exact ⟨rfl, rfl⟩

/-- What Pow answers, where it answers. -/
def Makes2 (w : World) (s : Int) (e : Ending) (w' : World) : Prop :=
  ∃ zs r, e = .returned (.tuple #[r, .int .i64 0]) ∧ Mine w.heap.size w' r zs ∧ Canon zs ∧ val zs = s ∧ Below w.heap.size w w'

theorem pow_neg (v : Value) (w : World) {i : Int} (hi : i < 0) :
    Calls Try.prog 110 #[v, .int .i64 i] w fun e w' => e = .returned (.tuple #[.slice none 0 0, .int .i64 3]) ∧ w' = w := by
  go_enter Try.func110, Try.ntmps110
  go_wp2
  go_ret2
  exact ⟨rfl, rfl⟩
theorem pow_big (v : Value) (w : World) {i : Int} (hi : 256 < i) :
    Calls Try.prog 110 #[v, .int .i64 i] w fun e w' => e = .returned (.tuple #[.slice none 0 0, .int .i64 5]) ∧ w' = w := by
  have h0 : ¬ i < 0 := by omega
  go_enter Try.func110, Try.ntmps110
  go_wp2
  go_ret2
  exact ⟨rfl, rfl⟩
theorem canon_one : Canon [1] := ⟨wf_word (by omega) WF.nil, rfl⟩
theorem bitLen_9 {n : Nat} (h : n ≤ 256) : bitLen n ≤ 9 := by
  unfold bitLen
  split
  · omega
  · rename_i h0
    have := (Nat.log2_lt h0).2 (show n < 2 ^ 9 by omega)
    omega
theorem bitLen_none (n : Nat) : n / 2 ^ bitLen n = 0 := Nat.div_eq_of_lt (bitLen_spec n).1
theorem half_step (n k : Nat) : n / 2 ^ k = 2 * (n / 2 ^ (k + 1)) + n / 2 ^ k % 2 := by
  rw [Nat.pow_succ, ← Nat.div_div_eq_div_mul]
  omega

set_option maxHeartbeats 3200000 in
theorem pow_some {w : World} {va : Value} {xs : List Int} (ha : Sl w.heap.size w va xs) (hl : xs.length ≤ 1073741824) {n : Nat} (hn : n ≤ 256) :
    Calls Try.prog 110 #[va, .int .i64 (n : Int)] w (Makes2 w (val xs ^ n)) := by
  have HA := hid ha
  have X0 := hid (val_nonneg ha.1)
  have X1 := hid (val_lt_pw ha.1)
  have hLn : ∀ w : World, Calls Try.prog 74 #[.int .u64 (n : Int)] w fun e w' => e = .returned (.int .i64 (bitLen n : Int)) ∧ w' = w := fun w => by
    have := bitsLen_any (x := (n : Int)) (by unfold IsW wB; omega) w
    simpa using this
  have h9 := bitLen_9 hn
  have HZ := hid (bitLen_none n)
  have HB : Hid (∀ k, bits BinOp.and IntKind.i64 ((n : Int) / 2 ^ k) 1 = ((n / 2 ^ k % 2 : Nat) : Int)) := fun k => bit_i64 n k hn
  obtain ⟨L, hL⟩ : ∃ L, xs.length = L := ⟨_, rfl⟩
  have HL := hid hL
  rw [hL] at X1 hl
  have hL2 : ∀ e, e ≤ 256 → L * e ≤ 274877906944 := fun e he => by
    have := Nat.mul_le_mul hl he
    omega
  have HL2 := hid hL2
  generalize bitLen n = B at *
  obtain ⟨X, hX⟩ : ∃ X, val xs = X := ⟨_, rfl⟩
  rw [hX] at X0 X1 ⊢
  have HX := hid hX
  clear ha hL hL2 hX
  go_enter Try.func110, Try.ntmps110
  go_wp2_with fail
  refine (hLn _).mono ?_
  rintro e w1 ⟨rfl, rfl⟩
  have hnew := hid (mine_row (B := w.heap.size) (zs := [1]) (k := 1) (Nat.le_refl _) canon_one.1 rfl (by omega) (Row.new w [1]))
  have hbel := hid ((Below.refl w.heap.size w).alloc (Nat.le_refl _) (.cells #[.int .u64 1] 26))
  go_wp2_with fail
  go_loopw [6, 7] (fun p i wr => ∃ (j : Nat) (zs : List Int), j ≤ 9 ∧ i = .int .i64 ((j : Int) - 1) ∧ Hid (Mine w.heap.size wr p zs) ∧ Hid (Canon zs) ∧ Hid (val zs = X ^ (n / 2 ^ j)) ∧ Hid (Below w.heap.size w wr)) (fun _ i _ => (intOf i + 1).toNat)
  case atStart => exact ⟨B, [1], h9, rfl, hnew, hid canon_one, (by unfold Hid; rw [HZ.out]; simp [val]), hbel⟩
  case round =>
    clear hnew hbel
    obtain ⟨j, zs, hj, rfl, HM, HC, HV, hb⟩ := hrel
    match j, hj, HV with
    | 0, hj, HV =>
      obtain ⟨pa, pc, rfl⟩ := HM.out.form
      go_wp2
      go_ret2
      exact ⟨zs, _, rfl, HM.out, HC.out, by rw [HV.out]; simp, hb.out⟩
    | k + 1, hj, HV =>
      have hbk := HB.out k
      have hst := hid (half_step n k)
      have hlen := pow_len X0.out X1.out HC.out HV.out
      have he : n / 2 ^ (k + 1) ≤ n := Nat.div_le_self _ _
      have hl2 := HL2.out _ (show n / 2 ^ (k + 1) ≤ 256 by omega)
      have HA1 := hid ((HA.out.now hb.out))
      have HSQ := hid (square_any HM.out.sl (by omega))
      obtain ⟨pa, pc, rfl⟩ := HM.out.form
      clear hlen hl2
      go_wp2_with fail
      refine HSQ.out.mono ?_
      rintro e w2 ⟨qs, q, rfl, m1, m2, m3, m4⟩
      obtain ⟨qa, qc, rfl⟩ := m1.form
      have HM1 := hid (m1.mono hb.out.size)
      have HQ : Hid (val qs = X ^ (2 * (n / 2 ^ (k + 1)))) := by unfold Hid; rw [m3, HV.out, ← Int.pow_add]; congr 1; omega
      have hb2 := hid (below_step hb.out m4)
      have HA2 := hid (HA1.out.now m4)
      have HC2 := hid m2
      clear m1 m2 m3 m4 HSQ HA1 HM HC HV hb
      by_cases hbit : n / 2 ^ k % 2 = 1
      · rw [hbit] at hbk
        have hle : n / 2 ^ k ≤ n := Nat.div_le_self _ _
        have hlen := pow_len X0.out X1.out HC2.out HQ.out
        have hl2 := HL2.out _ (show 2 * (n / 2 ^ (k + 1)) ≤ 256 by have := hst.out; omega)
        have HMU := hid (mul_any HM1.out.sl HA2.out (by rw [HL.out]; omega))
        have HBI := hid hbit
        clear hlen hl2 hbit
        go_wp2_with fail
        refine HMU.out.mono ?_
        rintro e w3 ⟨ts, t, rfl, m1, m2, m3, m4⟩
        have HM3 := hid (m1.mono hb2.out.size)
        have HC3 := hid m2
        have HQ3 := hid m3
        have hb3 := hid (below_step hb2.out m4)
        clear m1 m2 m3 m4 HMU HA2
        go_wp2
        go_roundw
        case rel => exact ⟨k, ts, by omega, by go_num, HM3, HC3, (by unfold Hid; rw [HQ3.out, HQ.out, HX.out, ← Int.pow_succ]; congr 1; have := hst.out; have := HBI.out; omega), hb3⟩
        case measure => first | (simp [intOf]; done) | (simp [intOf]; omega)
      · have hbit0 : n / 2 ^ k % 2 = 0 := by omega
        rw [hbit0] at hbk
        have HBI := hid hbit0
        clear hbit hbit0
        go_wp2
        go_roundw
        case rel => exact ⟨k, qs, by omega, by go_num, HM1, HC2, (by unfold Hid; rw [HQ.out]; congr 1; have := hst.out; have := HBI.out; omega), hb2⟩
        case measure => first | (simp [intOf]; done) | (simp [intOf]; omega)

/- Strip -/

/-- y does not go into x. -/
def NoDiv (y x : Int) : Prop := ∀ k, x ≠ y * k
theorem sq_pow (y : Int) : ∀ s : Nat, (y * y) ^ s = y ^ (2 * s)
  | 0 => by simp
  | s + 1 => by rw [Int.pow_succ, sq_pow y s, show 2 * (s + 1) = 2 * s + 1 + 1 by omega, Int.pow_succ, Int.pow_succ, Int.mul_assoc]
theorem pw_mono3 {m n : Nat} (h : m ≤ n) : pw m ≤ pw n := by
  obtain ⟨k, rfl⟩ := Nat.exists_eq_add_of_le h
  rw [pw_add]
  have h1 := pw_pos m
  have h2 := pw_pos k
  have := Int.mul_le_mul_of_nonneg_left (show 1 ≤ pw k by omega) (Int.le_of_lt h1)
  rw [Int.mul_one] at this
  exact this
theorem len_of_lt {zs : List Int} {k : Nat} (h : Canon zs) (hv : val zs < pw k) : zs.length ≤ k := by
  refine Nat.le_of_not_lt fun hlt => ?_
  obtain ⟨N, hN⟩ : ∃ N, zs.length = N + 1 := ⟨zs.length - 1, by omega⟩
  have h1 := canon_ge h hN
  have h2 := pw_mono3 (show k ≤ N by omega)
  omega
theorem square_len {xs ys zs : List Int} (hx : WF xs) (hy : WF ys) (hz : Canon zs) (hle : val ys ≤ val xs) (hv : val zs = val ys * val ys) : zs.length ≤ 2 * wid xs := by
  refine len_of_lt hz ?_
  have h0 := val_nonneg hy
  have h1 : val ys * val ys ≤ val xs * val xs := Int.mul_le_mul hle hle h0 (by omega)
  have h2 := val_mul_lt (canon_lst hx).1 (canon_lst hx).1
  rw [val_lst, length_lst] at h2
  rw [Nat.two_mul, hv]
  omega
/-- 2^n is at most a power. -/
theorem two_le_pow {y : Int} (h : 2 ≤ y) : ∀ n : Nat, (2 : Int) ^ n ≤ y ^ n
  | 0 => by simp
  | n + 1 => by
    rw [Int.pow_succ, Int.pow_succ]
    have h1 := two_le_pow h n
    have h2 : (0 : Int) < 2 ^ n := Int.pow_pos (by omega)
    exact Int.mul_le_mul h1 h (by omega) (by omega)
theorem strip_count {xs : List Int} {y z : Int} {n : Nat} (hx : WF xs) (hy : 2 ≤ y) (hz : 0 < z) (h : val xs = y ^ n * z) : n < 64 * xs.length + 1 := by
  have h1 := val_lt_pw hx
  rw [pw_pow] at h1
  have h2 := two_le_pow hy n
  have h3 : (0 : Int) < 2 ^ n := Int.pow_pos (by omega)
  have h4 := Int.mul_le_mul_of_nonneg_left (show 1 ≤ z by omega) (show 0 ≤ y ^ n by omega)
  rw [Int.mul_one] at h4
  refine Nat.lt_of_not_le fun hle => ?_
  have h5 : (2 : Int) ^ (64 * xs.length) ≤ 2 ^ n := by
    rw [cast_pow, cast_pow]
    have := Nat.pow_le_pow_right (n := 2) (by omega) (show 64 * xs.length ≤ n by omega)
    omega
  omega

/-- What strip answers. -/
def Stripped (w : World) (xs ys : List Int) (e : Ending) (w' : World) : Prop :=
  ∃ (n : Nat) (zs : List Int) (r : Value), e = .returned (.tuple #[.int .i64 (n : Int), r]) ∧ Own w.heap.size w' r zs ∧ Canon zs ∧ val xs = val ys ^ n * val zs ∧ NoDiv (val ys) (val zs) ∧ 0 < val zs ∧ zs.length ≤ xs.length ∧ Below w.heap.size w w'
def StripOk (N : Nat) : Prop := ∀ (w : World) (va vb : Value) (xs ys : List Int), Sl w.heap.size w va xs → Sl w.heap.size w vb ys → 0 < val xs → 2 ≤ val ys → xs.length ≤ 274877906944 → ys.length ≤ 549755813888 → vn xs < N → Calls Try.prog 48 #[va, vb] w (Stripped w xs ys)
theorem no_div {X Y : Int} {qs rs : List Int} (hr : Canon rs) (hn : rs ≠ []) (h : X = Y * val qs + val rs) (hl : val rs < Y) : NoDiv Y X := fun k e => by
  have h0 := val_nonneg hr.1
  obtain ⟨_, b⟩ := div_one (q' := k) (r' := 0) h (by rw [e]; omega) h0 hl (Int.le_refl 0) (by omega)
  exact hn (canon_zero hr b.symm)
theorem wid_ne {ys : List Int} (h : 0 < val ys) : wid ys ≠ 0 := fun e => by have := wid_zero_val ys e; omega
theorem own_trans {w w1 w2 : World} {v : Value} {zs : List Int} (hb : Below w.heap.size w w1) (h : Own w1.heap.size w2 v zs) : Own w.heap.size w2 v zs := h.lower hb.size

set_option maxHeartbeats 3200000 in
theorem strip_step {w : World} {va vb : Value} {xs ys : List Int} (ha : Sl w.heap.size w va xs) (hb : Sl w.heap.size w vb ys) (hx : 0 < val xs) (hy : 2 ≤ val ys) (lx : xs.length ≤ 274877906944) (ly : ys.length ≤ 549755813888) (IH : StripOk (vn xs)) :
    Calls Try.prog 48 #[va, vb] w (Stripped w xs ys) := by
  have HE := exact_any ha hb (wid_ne (by omega)) (by omega) (by omega)
  have HA := hid ha
  have HB := hid hb
  have HIH := hid IH
  clear ha hb IH
  go_enter Try.func48, Try.ntmps48
  go_wp2_with fail
  refine HE.mono ?_
  rintro e w1 ⟨qs, rs, hcq, hcr, hv, hlt, hlq, b1, hend⟩
  have B1 := hid b1
  have HA1 := hid (HA.out.now b1)
  have HB1 := hid (HB.out.now b1)
  clear HE b1
  rcases hend with ⟨rfl, q, rfl, hoq⟩ | ⟨hrs, rfl⟩
  · have hv0 : val xs = val ys * val qs := by rw [hv]; simp [val]
    have hqp : 0 < val qs := by
      have := val_nonneg hcq.1
      rcases Int.lt_or_eq_of_le this with t | t
      · exact t
      · rw [← t, Int.mul_zero] at hv0; omega
    have hyx : val ys ≤ val xs := by
      have := Int.mul_le_mul_of_nonneg_left (show 1 ≤ val qs by omega) (show 0 ≤ val ys by omega)
      rw [Int.mul_one] at this
      omega
    have hqx : val qs < val xs := by
      have := Int.mul_le_mul_of_nonneg_right hy (Int.le_of_lt hqp)
      omega
    have HV := hid hv0
    have HQ1 := hid hoq.sl
    have HSQ := hid (square_any HB1.out (by omega))
    have hz : ((0 : Int) != 0) = false := rfl
    obtain ⟨qa, qc, rfl⟩ := hoq.form
    clear hoq hv hv0
    go_wp2_with fail
    refine HSQ.out.mono ?_
    rintro e w2 ⟨bs, vb2, rfl, hm, hcb, hvb, b2⟩
    have hbl := square_len HA.out.1 HB.out.1 hcb hyx hvb
    have hwl := wid_le xs
    have hy2 : 2 ≤ val bs := by
      rw [hvb]
      have := Int.mul_le_mul hy hy (by omega) (by omega)
      omega
    have HST := hid (HIH.out w2 _ vb2 qs bs (HQ1.out.now b2) hm.sl hqp hy2 (by omega) (by omega) (by
      have a1 := val_vn HA.out.1
      have a2 := val_vn hcq.1
      omega))
    have B2 := hid (below_step B1.out b2)
    have HB2 := hid (HB1.out.now b2)
    have HVB := hid hvb
    clear HSQ hm b2 hvb HA1 HB1 HQ1
    go_wp2_with fail
    refine HST.out.mono ?_
    rintro e w3 ⟨n, ls, vl, rfl, hol, hcl, hvl, hnl, hlp, hll, b3⟩
    have hn := strip_count hcq.1 hy2 hlp hvl
    have HL3 := hid hol
    have HEX := hid (exact_any hol.sl (HB2.out.now b3) (wid_ne (by omega)) (by omega) (by omega))
    have B3 := hid (below_step B2.out b3)
    have B23 := hid B2.out
    have HVL : Hid (val xs = val ys ^ (2 * n + 1) * val ls) := by
      unfold Hid
      rw [HV.out, hvl, HVB.out, sq_pow, Int.pow_succ, Int.mul_comm (val ys ^ (2 * n)) (val ys), Int.mul_assoc]
    have HNL : Hid (∀ k, val ls ≠ val ys * val ys * k) := by unfold Hid; intro k; have := hnl k; rw [HVB.out] at this; exact this
    obtain ⟨la, lc, rfl⟩ := hol.form
    clear HST hol b3 hvl hnl
    go_wp2_with fail
    refine HEX.out.mono ?_
    rintro e w4 ⟨qs2, rs2, hcq2, hcr2, hv2, hlt2, hlq2, b4, hend2⟩
    have B4 := hid (below_step B3.out b4)
    have HB4 := hid b4
    clear HEX b4
    rcases hend2 with ⟨rfl, q2, rfl, hoq2⟩ | ⟨hrs2, rfl⟩
    · have hv3 : val ls = val ys * val qs2 := by rw [hv2]; simp [val]
      have HO2 := hid hoq2
      have HF1 : Hid (val xs = val ys ^ (2 * n + 2) * val qs2) := by
        unfold Hid
        rw [HVL.out, hv3, show 2 * n + 2 = (2 * n + 1) + 1 by omega, Int.pow_succ (val ys) (2 * n + 1), Int.mul_assoc]
      have HF2 : Hid (NoDiv (val ys) (val qs2)) := fun k e => HNL.out k (by rw [hv3, e, Int.mul_assoc])
      have hq2p : 0 < val qs2 := by
        rcases Int.lt_or_eq_of_le (val_nonneg hcq2.1) with t | t
        · exact t
        · rw [← t, Int.mul_zero] at hv3; omega
      have en : ((2 * n + 2 : Nat) : Int) = 2 * (n : Int) + 2 := by omega
      have HN := hid en
      obtain ⟨q2a, q2c, rfl⟩ := hoq2.form
      clear hoq2 hv2 hlt2 hv3 en
      go_wp2
      go_ret2
      exact ⟨2 * n + 2, qs2, _, by rw [HN.out]; rfl, own_trans B3.out HO2.out, hcq2, HF1.out, HF2.out, hq2p, by omega, B4.out⟩
    · have hne8 : ((8 : Int) != 0) = true := rfl
      have HF2 := hid (no_div hcr2 hrs2 hv2 hlt2)
      have en : ((2 * n + 1 : Nat) : Int) = 2 * (n : Int) + 1 := by omega
      have HN := hid en
      clear hv2 hlt2 en
      go_wp2
      go_ret2
      exact ⟨2 * n + 1, ls, _, by rw [HN.out]; rfl, (own_trans B23.out HL3.out).stay HB4.out, hcl, HVL.out, HF2.out, hlp, by omega, B4.out⟩
  · have hne8 : ((8 : Int) != 0) = true := rfl
    have HF2 := hid (no_div hcr hrs hv hlt)
    have HLE := hid (least_own HA1.out)
    have hwx := HA.out.1
    clear hv hlt
    go_wp2_with fail
    refine HLE.out.mono ?_
    rintro e w2 ⟨r, rfl, ho, b2⟩
    have HO := hid ho
    have B2 := hid (below_step B1.out b2)
    clear HLE ho b2
    go_wp2
    go_ret2
    exact ⟨0, lst xs, r, rfl, own_trans B1.out HO.out, canon_lst hwx, by rw [val_lst]; simp, by rw [val_lst]; exact HF2.out, by rw [val_lst]; exact hx, by rw [length_lst]; exact wid_le xs, B2.out⟩

theorem strip_ok : ∀ N, StripOk N
  | 0 => fun w va vb xs ys _ _ _ _ _ _ h => by omega
  | N + 1 => fun w va vb xs ys ha hb hx hy lx ly h => strip_step ha hb hx hy lx ly (fun w' va' vb' xs' ys' ha' hb' hx' hy' lx' ly' h' => strip_ok N w' va' vb' xs' ys' ha' hb' hx' hy' lx' ly' (by omega))
theorem strip_any {w : World} {va vb : Value} {xs ys : List Int} (ha : Sl w.heap.size w va xs) (hb : Sl w.heap.size w vb ys) (hx : 0 < val xs) (hy : 2 ≤ val ys) (lx : xs.length ≤ 274877906944) (ly : ys.length ≤ 549755813888) :
    Calls Try.prog 48 #[va, vb] w (Stripped w xs ys) := strip_ok _ w va vb xs ys ha hb hx hy lx ly (Nat.lt_succ_self _)

/-- What Strip answers where it answers. -/
def Stripped3 (w : World) (xs ys : List Int) (e : Ending) (w' : World) : Prop :=
  ∃ (n : Nat) (zs : List Int) (r : Value), e = .returned (.tuple #[.int .i64 (n : Int), r, .int .i64 0]) ∧ Own w.heap.size w' r zs ∧ Canon zs ∧ val xs = val ys ^ n * val zs ∧ NoDiv (val ys) (val zs) ∧ 0 < val zs ∧ zs.length ≤ xs.length ∧ Below w.heap.size w w'
theorem bitLen_pos {v : Nat} (h : 0 < v) : bitLen v ≠ 0 := by unfold bitLen; rw [if_neg (by omega)]; omega
theorem bitLen_two {v : Nat} (h : 2 ≤ v) : ¬ bitLen v < 2 := by
  unfold bitLen
  rw [if_neg (by omega)]
  have : 1 ≤ Nat.log2 v := (Nat.le_log2 (by omega)).2 (by omega)
  omega
theorem bitLen_less {v : Nat} (h : v < 2) : bitLen v < 2 := by
  rcases v with _ | _ | v
  · decide
  · decide
  · omega
set_option maxHeartbeats 800000 in
theorem strip3_any {w : World} {va vb : Value} {xs ys : List Int} (ha : Sl w.heap.size w va xs) (hb : Sl w.heap.size w vb ys) (hx : 0 < val xs) (hy : 2 ≤ val ys) (lx : xs.length ≤ 274877906944) (ly : ys.length ≤ 549755813888) :
    Calls Try.prog 23 #[va, vb] w (Stripped3 w xs ys) := by
  have L1 := bitLen_any ha
  have L2 := bitLen_any hb
  have b1 : bitLen (vn xs) ≠ 0 := bitLen_pos (by have := val_vn ha.1; omega)
  have b2 : ¬ bitLen (vn ys) < 2 := bitLen_two (by have := val_vn hb.1; omega)
  have HS := hid (strip_any ha hb hx hy lx ly)
  generalize bitLen (vn xs) = m at *
  generalize bitLen (vn ys) = k at *
  have hz : ((m : Int) == 0) = false := by rw [beq_eq_false_iff_ne]; omega
  have hz2 : ¬ (k : Int) < 2 := by omega
  clear ha hb
  go_enter Try.func23, Try.ntmps23
  go_wp2_with fail
  refine L1.mono ?_
  rintro e w1 ⟨rfl, rfl⟩
  go_wp2_with fail
  refine L2.mono ?_
  rintro e w2 ⟨rfl, rfl⟩
  clear L1 L2
  go_wp2_with fail
  refine HS.out.mono ?_
  rintro e w3 ⟨n, zs, r, rfl, ho, hc, hv, hn, hp, hl, hb⟩
  have HO := hid ho
  have HV := hid hv
  have HB := hid hb
  clear HS ho hv hb
  go_wp2
  go_ret3
  exact ⟨n, zs, r, rfl, HO.out, hc, HV.out, hn, hp, hl, HB.out⟩
theorem strip3_not {w : World} {va vb : Value} {xs ys : List Int} (ha : Sl w.heap.size w va xs) (hb : Sl w.heap.size w vb ys) (h : val xs = 0 ∨ val ys < 2) :
    Calls Try.prog 23 #[va, vb] w fun e w' => e = .returned (.tuple #[.int .i64 0, .slice none 0 0, .int .i64 3]) ∧ w' = w := by
  have L1 := bitLen_any ha
  have L2 := bitLen_any hb
  by_cases h0 : val xs = 0
  · have b1 : bitLen (vn xs) = 0 := by have := val_vn ha.1; rw [show vn xs = 0 by omega]; rfl
    rw [b1] at L1
    have hz : ((0 : Int) == 0) = true := rfl
    clear L2
    go_enter Try.func23, Try.ntmps23
    go_wp2_with fail
    refine L1.mono ?_
    rintro e w1 ⟨rfl, rfl⟩
    clear L1
    go_wp2
    go_ret3
    exact ⟨rfl, rfl⟩
  · have b1 : bitLen (vn xs) ≠ 0 := bitLen_pos (by have := val_vn ha.1; have := val_nonneg ha.1; omega)
    have b2 : bitLen (vn ys) < 2 := bitLen_less (by have := val_vn hb.1; omega)
    generalize bitLen (vn xs) = m at *
    generalize bitLen (vn ys) = k at *
    have hz : ((m : Int) == 0) = false := by rw [beq_eq_false_iff_ne]; omega
    have hz2 : (k : Int) < 2 := by omega
    go_enter Try.func23, Try.ntmps23
    go_wp2_with fail
    refine L1.mono ?_
    rintro e w1 ⟨rfl, rfl⟩
    go_wp2_with fail
    refine L2.mono ?_
    rintro e w2 ⟨rfl, rfl⟩
    clear L1 L2
    go_wp2
    go_ret3
    exact ⟨rfl, rfl⟩

/- AtMost -/

theorem pow_up {y : Int} (hy : 1 ≤ y) {m n : Nat} (h : m ≤ n) : y ^ m ≤ y ^ n := by
  obtain ⟨d, rfl⟩ := Nat.exists_eq_add_of_le h
  rw [Int.pow_add]
  have h1 : 0 < y ^ m := Int.pow_pos (by omega)
  have h2 : 0 < y ^ d := Int.pow_pos (by omega)
  have := Int.mul_le_mul_of_nonneg_left (show 1 ≤ y ^ d by omega) (Int.le_of_lt h1)
  rw [Int.mul_one] at this
  exact this
/-- One binary digit more of the exponent. -/
theorem pow_bit (y : Int) (k i : Nat) : y ^ (k / 2 ^ i) = if k / 2 ^ i % 2 = 1 then y ^ (k / 2 ^ (i + 1)) * y ^ (k / 2 ^ (i + 1)) * y else y ^ (k / 2 ^ (i + 1)) * y ^ (k / 2 ^ (i + 1)) := by
  have e : k / 2 ^ (i + 1) = k / 2 ^ i / 2 := by rw [Nat.pow_succ, Nat.div_div_eq_div_mul]
  rw [e]
  generalize k / 2 ^ i = m
  split
  · rename_i h
    rw [← Int.pow_add, ← Int.pow_succ]
    congr 1
    omega
  · rename_i h
    rw [← Int.pow_add]
    congr 1
    omega
theorem two_half (i : Nat) : 2 ^ (i + 1) / 2 = 2 ^ i := by rw [Nat.pow_succ]; omega
/-- A power that is at most a number is no longer than it. -/
theorem pow_lenA {xs zs : List Int} (hx : WF xs) (hz : Canon zs) (h : val zs ≤ val xs) : zs.length ≤ xs.length := by
  have h1 := canon_len_le hz (canon_lst hx) (by rw [val_lst]; exact h)
  rw [length_lst] at h1
  have := wid_le xs
  omega
theorem canon_oneA : Canon [1] := ⟨wf_word (by omega) WF.nil, rfl⟩

set_option maxHeartbeats 3200000 in
set_option maxRecDepth 100000 in
theorem atMost_yes {w : World} {vb va : Value} {xs ys : List Int} {k : Nat} (hb : Sl w.heap.size w vb ys) (ha : Sl w.heap.size w va xs) (hy : 2 ≤ val ys) (hk : val ys ^ k ≤ val xs) (lx : xs.length ≤ 274877906944) (ly : ys.length ≤ 549755813888) :
    Calls Try.prog 22 #[vb, .int .i64 (k : Int), va] w fun e w' => e = .returned (.bool true) ∧ Below w.heap.size w w' := by
  have hp0 : 0 < val ys ^ k := Int.pow_pos (by omega)
  have hxk : (2 : Int) ^ k ≤ val xs := Int.le_trans (two_le_pow hy k) hk
  have L1 := rbitLen_any hb (by omega)
  have HA := hid ha
  have HB := hid hb
  have hvx := val_vn ha.1
  have hvy := val_vn hb.1
  have hm0 : 0 < bitLen (vn xs) := Nat.pos_of_ne_zero (bitLen_pos (by omega))
  have hkm : k < bitLen (vn xs) := by
    unfold bitLen
    rw [if_neg (by omega)]
    have : k ≤ Nat.log2 (vn xs) := (Nat.le_log2 (by omega)).2 (by
      rw [cast_pow, hvx] at hxk
      omega)
    omega
  have hml : bitLen (vn xs) ≤ 64 * xs.length := by
    unfold bitLen
    rw [if_neg (by omega)]
    have := (Nat.log2_lt (n := vn xs) (k := 64 * xs.length) (by omega)).2 (vn_lt ha.1)
    omega
  have hn2 : ¬ bitLen (vn ys) < 2 := bitLen_two (by omega)
  have hnl : bitLen (vn ys) ≤ 64 * ys.length := by
    unfold bitLen
    rw [if_neg (by omega)]
    have := (Nat.log2_lt (n := vn ys) (k := 64 * ys.length) (by omega)).2 (vn_lt hb.1)
    omega
  have HLX := hid (show bitLen (vn xs) = bitLen (vn xs) from rfl)
  obtain ⟨n, hn⟩ : ∃ n, bitLen (vn ys) = n := ⟨_, rfl⟩
  obtain ⟨m, hm⟩ : ∃ m, bitLen (vn xs) = m := ⟨_, rfl⟩
  rw [hn] at L1 hn2 hnl
  rw [hm] at hm0 hkm hml
  have HM := hid hm
  have HK := hid hk
  clear ha hb hn hm hxk hk hvx hvy HLX
  go_enter Try.func22, Try.ntmps22
  go_wp2_with fail
  refine L1.mono ?_
  rintro e w1 ⟨rfl, b1⟩
  have L2 := hid (rbitLen_any (HA.out.now b1) (by omega))
  rw [HM.out] at L2
  have B1 := hid b1
  clear L1 b1
  have q1 : ¬ (n : Int) ≤ 1 := by omega
  have q2 : (0 : Int) < (m : Int) := by omega
  have q3 : ((n : Int) == 0) = false := by rw [beq_eq_false_iff_ne]; omega
  by_cases hk0 : k = 0
  · subst hk0
    have q4 : ((0 : Int) == 0) = true := rfl
    go_wp2_with fail
    refine L2.out.mono ?_
    rintro e w2 ⟨rfl, b2⟩
    have B2 := hid (below_step B1.out b2)
    clear L2 b2
    go_wp2
    go_ret
    exact ⟨rfl, B2.out⟩
  · have q4 : ((k : Int) == 0) = false := by rw [beq_eq_false_iff_ne]; omega
    have q5 : ¬ (m : Int) < (k : Int) := by omega
    go_wp2_with fail
    refine L2.out.mono ?_
    rintro e w2 ⟨rfl, b2⟩
    have B2 := hid (below_step B1.out b2)
    have HA2 := hid ((HA.out.now B1.out).now b2)
    have HB2 := hid ((HB.out.now B1.out).now b2)
    clear L2 b2 B1 HA HB
    go_wp2_with fail
    go_loopw [10] (fun s10 wx => ∃ L : Nat, s10 = .int .i64 ((2 ^ L : Nat) : Int) ∧ 2 ^ L ≤ k ∧ wx = w2.alloc (.cells #[.int .u64 1] 26)) (fun s10 _ => k - (intOf s10).toNat)
    case atStart => exact ⟨0, rfl, by simp; omega, rfl⟩
    case round =>
      obtain ⟨L, rfl, hL, rfl⟩ := hrel
      obtain ⟨P, hP⟩ : ∃ P, 2 ^ L = P := ⟨_, rfl⟩
      have HP := hid hP
      have hP1 : 1 ≤ P := by rw [← hP]; exact Nat.two_pow_pos L
      rw [hP] at hL
      rw [hP]
      clear hP
      by_cases hlt : P ≤ k / 2
      · have i1 : (P : Int) ≤ (k : Int) / 2 := by omega
        go_wp2_with fail
        go_roundw
        case rel => exact ⟨L + 1, by rw [Nat.pow_succ, HP.out]; go_num, by rw [Nat.pow_succ, HP.out]; omega, by first | rfl | trivial⟩
        case measure => simp [intOf]; omega
      · have i1 : ¬ (P : Int) ≤ (k : Int) / 2 := by omega
        have hkP : k < 2 ^ (L + 1) := by rw [Nat.pow_succ, HP.out]; omega
        have SP : Hid (Sl (w2.alloc (.cells #[.int .u64 1] 26)).heap.size (w2.alloc (.cells #[.int .u64 1] 26)) (.slice (some ⟨w2.heap.size, 0, none⟩) 1 1) [1]) := lit_last w2 [1] _ rfl canon_oneA.1 (by simp) 1 rfl
        have HB0 := hid ((Below.refl w2.heap.size w2).alloc (Nat.le_refl _) (.cells #[.int .u64 1] 26))
        go_wp2_with fail
        go_loopg [9, 10] (L + 1) (fun g s9 s10 wx => ∃ zs : List Int, s10 = .int .i64 ((2 ^ g / 2 : Nat) : Int) ∧ 2 ^ g / 2 ≤ k ∧ Hid (Sl wx.heap.size wx s9 zs) ∧ Canon zs ∧ Hid (val zs = val ys ^ (k / 2 ^ g)) ∧ Hid (Below w2.heap.size w2 wx))
        case atStart => exact ⟨[1], by rw [two_half, HP.out], by rw [two_half, HP.out]; exact hL, SP, canon_oneA, by unfold Hid; rw [Nat.div_eq_of_lt hkP]; simp [val], HB0⟩
        case round =>
          clear SP HB0
          obtain ⟨zs, rfl, hgk, SZ, hcz, HVZ, BZ⟩ := hrel
          cases gk with
          | zero =>
            have e0 : 2 ^ 0 / 2 = 0 := rfl
            rw [e0]
            go_wp2
            go_ret
            exact ⟨rfl, below_step B2.out BZ.out⟩
          | succ i =>
            rw [two_half] at hgk
            rw [two_half]
            obtain ⟨Q, hQ⟩ : ∃ Q, 2 ^ i = Q := ⟨_, rfl⟩
            have HPI := hid hQ
            have hQ1 : 1 ≤ Q := by rw [← hQ]; exact Nat.two_pow_pos i
            rw [hQ] at hgk
            rw [hQ]
            clear hQ
            have hlz : zs.length ≤ xs.length := pow_lenA HA2.out.1 hcz (by rw [HVZ.out]; exact Int.le_trans (pow_up (by omega) (Nat.div_le_self _ _)) HK.out)
            have HM1 := hid (rmul_any SZ.out SZ.out (by omega) (by omega))
            obtain ⟨kq, hkq⟩ : ∃ kq, k / Q = kq := ⟨_, rfl⟩
            have ek : (k : Int) / (Q : Int) = (kq : Int) := by rw [← hkq]; simp
            have et : (k : Int).tdiv (Q : Int) = (kq : Int) := by rw [← hkq]; exact (Int.ofNat_tdiv k Q).symm
            have hkq1 : kq ≤ k := by rw [← hkq]; exact Nat.div_le_self _ _
            have r1 : (0 : Int) < (Q : Int) := by omega
            have r2 : ¬ (Q : Int) = 0 := by omega
            have r3 : ((Q : Int) == 0) = false := by rw [beq_eq_false_iff_ne]; omega
            go_wp2_with fail
            refine HM1.out.mono ?_
            rintro e w3 ⟨zs2, v2, rfl, ho2, hc2, hv2, b3⟩
            have HO2 := hid ho2
            have HV2 := hid hv2
            have B3 := hid b3
            have hl2 : zs2.length ≤ xs.length := by
              refine pow_lenA HA2.out.1 hc2 ?_
              rw [hv2, HVZ.out, ← Int.pow_add]
              refine Int.le_trans (pow_up (by omega) ?_) HK.out
              have := Nat.div_mul_le_self k (2 ^ (i + 1))
              have h2 : 2 ≤ 2 ^ (i + 1) := by rw [Nat.pow_succ]; have := Nat.two_pow_pos i; omega
              have h3 := Nat.mul_le_mul_left (k / 2 ^ (i + 1)) h2
              omega
            clear HM1 ho2 hv2 b3
            by_cases hodd : k / Q % 2 = 1
            · have r4 : ((kq : Int) % 2 == 1) = true := by rw [beq_iff_eq]; rw [hkq] at hodd; omega
              have r5 : (kq : Int) % 2 = 1 := by rw [hkq] at hodd; omega
              have HM2 := hid (rmul_any HO2.out.sl (HB2.out.now (below_step BZ.out B3.out)) (by omega) (by omega))
              go_wp2_with fail
              refine HM2.out.mono ?_
              rintro e w4 ⟨zs3, v3, rfl, ho3, hc3, hv3, b4⟩
              have hval3 : val zs3 = val ys ^ (k / 2 ^ i) := by rw [hv3, HV2.out, HVZ.out, pow_bit (val ys) k i, if_pos (by rw [HPI.out]; exact hodd)]
              have hle3 : val zs3 ≤ val xs := by rw [hval3]; exact Int.le_trans (pow_up (by omega) (Nat.div_le_self _ _)) HK.out
              have hl3 := pow_lenA HA2.out.1 hc3 hle3
              have B4 := hid (below_step (below_step BZ.out B3.out) b4)
              have HO3 := hid ho3.sl
              have HC := hid (rcmp_any ho3.sl (HA2.out.now B4.out) (by omega) (by omega))
              have hcn : ¬ 0 < cmpI (val zs3) (val xs) := by
                rcases Int.lt_or_eq_of_le hle3 with t | t
                · rw [cmpI_lt t]; omega
                · rw [t, cmpI_self]; omega
              have HV3 := hid hval3
              generalize cmpI (val zs3) (val xs) = C at *
              clear HM2 ho3 hv3 b4 hval3 hle3
              go_wp2_with fail
              refine HC.out.mono ?_
              rintro e w5 ⟨rfl, b5⟩
              have B5 := hid (below_step B4.out b5)
              have HO5 := hid (HO3.out.now b5)
              clear HC b5
              go_wp2_with fail
              go_roundg i
              case rel => exact ⟨zs3, by rw [HPI.out]; go_num, by rw [HPI.out]; omega, HO5, hc3, HV3, B5⟩
              case measure => omega
            · have r4 : ((kq : Int) % 2 == 1) = false := by rw [beq_eq_false_iff_ne]; rw [hkq] at hodd; omega
              have hval3 : val zs2 = val ys ^ (k / 2 ^ i) := by rw [HV2.out, HVZ.out, pow_bit (val ys) k i, if_neg (by rw [HPI.out]; exact hodd)]
              have hle3 : val zs2 ≤ val xs := by rw [hval3]; exact Int.le_trans (pow_up (by omega) (Nat.div_le_self _ _)) HK.out
              have B4 := hid (below_step BZ.out B3.out)
              have HC := hid (rcmp_any HO2.out.sl (HA2.out.now B4.out) (by omega) (by omega))
              have hcn : ¬ 0 < cmpI (val zs2) (val xs) := by
                rcases Int.lt_or_eq_of_le hle3 with t | t
                · rw [cmpI_lt t]; omega
                · rw [t, cmpI_self]; omega
              have HV3 := hid hval3
              generalize cmpI (val zs2) (val xs) = C at *
              clear hval3 hle3
              go_wp2_with fail
              refine HC.out.mono ?_
              rintro e w5 ⟨rfl, b5⟩
              have B5 := hid (below_step B4.out b5)
              have HO5 := hid (HO2.out.sl.now b5)
              clear HC b5
              go_wp2_with fail
              go_roundg i
              case rel => exact ⟨zs2, by rw [HPI.out]; go_num, by rw [HPI.out]; omega, HO5, hc2, HV3, B5⟩
              case measure => omega

/- Power -/

/-- n x^(n+1) + r^(n+1) is at least (n+1) r x^n. -/
theorem amgm {x r : Int} (hx : 0 ≤ x) (hr : 0 ≤ r) : ∀ n : Nat, ((n : Int) + 1) * (r * x ^ n) ≤ (n : Int) * x ^ (n + 1) + r ^ (n + 1)
  | 0 => by simp [Int.pow_succ]
  | n + 1 => by
    have ih := amgm hx hr n
    have h1 := Int.mul_le_mul_of_nonneg_right ih hr
    have hp : 0 ≤ x ^ n := Int.pow_nonneg hx
    have hs : 0 ≤ (x - r) * (x - r) := by
      rcases Int.le_total 0 (x - r) with h | h
      · exact Int.mul_nonneg h h
      · exact Int.mul_nonneg_of_nonpos_of_nonpos h h
    have h2 := Int.mul_nonneg (Int.mul_nonneg (show (0 : Int) ≤ (n : Int) + 1 by omega) hp) hs
    rw [Int.pow_succ x (n + 1), Int.pow_succ x n, Int.pow_succ r (n + 1), Int.pow_succ r n]
    rw [Int.pow_succ x n, Int.pow_succ r n] at h1
    generalize x ^ n = X at *
    generalize r ^ n = R at *
    push_cast
    generalize (n : Int) = m at *
    grind
theorem pow_mono3 {x y : Int} (hx : 0 ≤ x) (h : x ≤ y) : ∀ n : Nat, x ^ n ≤ y ^ n
  | 0 => by simp
  | n + 1 => by
    rw [Int.pow_succ, Int.pow_succ]
    exact Int.mul_le_mul (pow_mono3 hx h n) h hx (Int.pow_nonneg (by omega))
/-- The step is at or above the root. -/
theorem newton_low {a x r : Int} {n : Nat} (hx : 0 < x) (hr : 0 ≤ r) (h : r ^ (n + 1) ≤ a) : r ≤ ((n : Int) * x + a / x ^ n) / ((n : Int) + 1) := by
  have hk : (0 : Int) < (n : Int) + 1 := by omega
  rw [Int.le_ediv_iff_mul_le hk]
  have hp : 0 < x ^ n := Int.pow_pos hx
  have h2 : r * ((n : Int) + 1) - (n : Int) * x ≤ a / x ^ n := by
    rw [Int.le_ediv_iff_mul_le hp]
    have h1 := amgm (Int.le_of_lt hx) hr n
    rw [Int.pow_succ x n] at h1
    rw [Int.sub_mul]
    generalize x ^ n = X at *
    have e1 : r * ((n : Int) + 1) * X = ((n : Int) + 1) * (r * X) := by grind
    have e2 : (n : Int) * x * X = (n : Int) * (X * x) := by grind
    rw [e1, e2]
    omega
  omega
/-- From above the root the step goes down. -/
theorem newton_down {a x r : Int} {n : Nat} (hx : 0 < x) (hr : 0 ≤ r) (ha : 0 ≤ a) (h : a < (r + 1) ^ (n + 1)) (hxr : r < x) : ((n : Int) * x + a / x ^ n) / ((n : Int) + 1) < x := by
  have hk : (0 : Int) < (n : Int) + 1 := by omega
  have hp : 0 < x ^ n := Int.pow_pos hx
  have h1 := pow_mono3 (x := r + 1) (y := x) (by omega) (by omega) (n + 1)
  rw [Int.pow_succ x n] at h1
  have h2 : a / x ^ n < x := Int.ediv_lt_of_lt_mul hp (by rw [Int.mul_comm]; omega)
  refine Int.ediv_lt_of_lt_mul hk ?_
  have e : x * ((n : Int) + 1) = (n : Int) * x + x := by grind
  have e' : ((n : Int) + 1) * x = (n : Int) * x + x := by grind
  first | (rw [e]; omega) | (rw [e']; omega)

theorem pow_half (X : Int) (n : Nat) : X ^ n = if n % 2 = 1 then X ^ (n / 2) * X ^ (n / 2) * X else X ^ (n / 2) * X ^ (n / 2) := by
  split
  · rename_i h
    rw [← Int.pow_add, ← Int.pow_succ]
    congr 1
    omega
  · rename_i h
    rw [← Int.pow_add]
    congr 1
    omega
def PowOk (N : Nat) : Prop := ∀ (w : World) (va : Value) (xs : List Int) (n : Nat), Sl w.heap.size w va xs → xs.length ≤ 1073741824 → xs.length * n ≤ 8589934592 → n < 4294967296 → n < N → Calls Try.prog 101 #[va, .int .i64 (n : Int)] w (Makes w (val xs ^ n))
set_option maxHeartbeats 1600000 in
theorem power_step {w : World} {va : Value} {xs : List Int} {n : Nat} (ha : Sl w.heap.size w va xs) (lx : xs.length ≤ 1073741824) (ln : xs.length * n ≤ 8589934592) (hn32 : n < 4294967296) (IH : PowOk n) : Calls Try.prog 101 #[va, .int .i64 (n : Int)] w (Makes w (val xs ^ n)) := by
  by_cases hn : n ≤ 256
  · have HP := pow_some ha lx hn
    have z : (n : Int) ≤ 256 := by omega
    clear ha IH
    go_enter Try.func101, Try.ntmps101
    go_wp2_with fail
    refine HP.mono ?_
    rintro e w1 ⟨zs, r, rfl, m1, c1, v1, b1⟩
    have M1 := hid m1
    have B1 := hid b1
    clear HP m1 b1
    go_wp2
    go_ret
    exact ⟨zs, r, rfl, M1.out, c1, v1, B1.out⟩
  · have z : ¬ (n : Int) ≤ 256 := by omega
    have e2 : (n : Int) / 2 = ((n / 2 : Nat) : Int) := by omega
    have hl2 : xs.length * (n / 2) ≤ xs.length * n := Nat.mul_le_mul_left _ (Nat.div_le_self _ _)
    have HP := hid (IH w va xs (n / 2) ha lx (by omega) (by omega) (by omega))
    have X0 := hid (val_nonneg ha.1)
    have X1 := hid (val_lt_pw ha.1)
    have HA := hid ha
    have PH := hid (pow_half (val xs) n)
    obtain ⟨h, hh⟩ : ∃ h, n / 2 = h := ⟨_, rfl⟩
    rw [hh] at HP e2 hl2 PH
    clear ha IH hh
    go_enter Try.func101, Try.ntmps101
    go_wp2_with fail
    refine HP.out.mono ?_
    rintro e w1 ⟨zs, r, rfl, m1, c1, v1, b1⟩
    have l1 := pow_len X0.out X1.out c1 v1
    have HS := hid (square_any m1.sl (by omega))
    have V1 := hid v1
    have B1 := hid b1
    clear HP v1 b1
    go_wp2_with fail
    refine HS.out.mono ?_
    rintro e w2 ⟨zs2, r2, rfl, m2, c2, v2, b2⟩
    have l2 := pow_len (e := h + h) X0.out X1.out c2 (by rw [v2, V1.out, ← Int.pow_add])
    have hl3 : xs.length * (h + h) ≤ 2 * (xs.length * n) := by rw [Nat.mul_add]; omega
    have V2 := hid v2
    have B2 := hid (below_step B1.out b2)
    have M2 := hid (m2.mono B1.out.size)
    clear HS m1 v2 b2
    by_cases hodd : n % 2 = 1
    · have z2 : ((n : Int) % 2 == 1) = true := by rw [beq_iff_eq]; omega
      have z3 : (n : Int) % 2 = 1 := by omega
      have HM := hid (mul_any m2.sl (HA.out.now B2.out) (by omega))
      clear m2
      go_wp2_with fail
      refine HM.out.mono ?_
      rintro e w3 ⟨zs3, r3, rfl, m3, c3, v3, b3⟩
      have M3 := hid (m3.mono B2.out.size)
      have B3 := hid (below_step B2.out b3)
      have V3 := hid v3
      clear HM m3 b3 v3
      go_wp2
      go_ret
      exact ⟨zs3, r3, rfl, M3.out, c3, by rw [V3.out, V2.out, V1.out, PH.out, if_pos hodd], B3.out⟩
    · have z2 : ((n : Int) % 2 == 1) = false := by rw [beq_eq_false_iff_ne]; omega
      clear m2
      go_wp2
      go_ret
      exact ⟨zs2, r2, rfl, M2.out, c2, by rw [V2.out, V1.out, PH.out, if_neg hodd], B2.out⟩
theorem power_ok : ∀ N, PowOk N
  | 0 => fun w va xs n _ _ _ _ h => by omega
  | N + 1 => fun w va xs n ha lx ln h32 h => power_step ha lx ln h32 (fun w' va' xs' n' ha' lx' ln' h32' h' => power_ok N w' va' xs' n' ha' lx' ln' h32' (by omega))
theorem power_any {w : World} {va : Value} {xs : List Int} {n : Nat} (ha : Sl w.heap.size w va xs) (lx : xs.length ≤ 1073741824) (ln : xs.length * n ≤ 8589934592) (h32 : n < 4294967296) : Calls Try.prog 101 #[va, .int .i64 (n : Int)] w (Makes w (val xs ^ n)) :=
  power_ok _ w va xs n ha lx ln h32 (Nat.lt_succ_self _)

/- StepDown -/

theorem mul_lenR {xs ys zs : List Int} (hx : WF xs) (hy : WF ys) (hz : Canon zs) (h : val zs = val xs * val ys) : zs.length ≤ xs.length + ys.length :=
  canon_len hz (by rw [h]; exact val_mul_lt hx hy)
/-- r is the k-th root of a, rounded down. -/
def IsRoot (r a : Int) (k : Nat) : Prop := 0 ≤ r ∧ r ^ k ≤ a ∧ a < (r + 1) ^ k
theorem div_is {X Y q r : Int} (h : X = Y * q + r) (h0 : 0 ≤ r) (h1 : r < Y) : X / Y = q := by
  rw [h, Int.add_comm, Int.add_mul_ediv_left _ _ (by omega), Int.ediv_eq_zero_of_lt h0 h1, Int.zero_add]
theorem wid_ne3 {ys : List Int} (h : 0 < val ys) : wid ys ≠ 0 := fun e => by have := wid_zero_val ys e; omega
def Rooted (B0 : Nat) (w : World) (r : Int) (e : Ending) (w' : World) : Prop := ∃ zs v, e = .returned v ∧ Own B0 w' v zs ∧ Canon zs ∧ val zs = r ∧ Below w.heap.size w w'

/-- A slice, the call's own if it holds r. -/
def OwnIf (B0 : Nat) (r : Int) (w : World) (v : Value) (us : List Int) : Prop := Sl w.heap.size w v us ∧ (val us = r → Own B0 w v us)
theorem OwnIf.sl {B0 : Nat} {r : Int} {w : World} {v : Value} {us : List Int} (h : OwnIf B0 r w v us) : Sl w.heap.size w v us := h.1
theorem OwnIf.stay {B0 : Nat} {r : Int} {w w' : World} {v : Value} {us : List Int} (h : OwnIf B0 r w v us) (b : Below w.heap.size w w') : OwnIf B0 r w' v us := ⟨h.1.now b, fun e => (h.2 e).stay b⟩
theorem Own.ownIf {B0 : Nat} {r : Int} {w : World} {v : Value} {us : List Int} (h : Own B0 w v us) : OwnIf B0 r w v us := ⟨h.sl, fun _ => h⟩

set_option maxHeartbeats 3200000 in
set_option maxRecDepth 100000 in
theorem stepDown_any {B0 : Nat} {w : World} {va vx : Value} {xs us0 : List Int} {n : Nat} {r : Int} (ha : Sl w.heap.size w va xs) (hx : OwnIf B0 r w vx us0) (hcu : Canon us0) (hn : 1 ≤ n) (hr1 : 1 ≤ r) (hr : IsRoot r (val xs) (n + 1)) (hgt : r ≤ val us0) (lx : xs.length ≤ 1099511627776) (lu : us0.length ≤ 1073741824) (lun : us0.length * n ≤ 8589934592) (hn32 : n + 1 < 4294967296) (hB : B0 ≤ w.heap.size) :
    Calls Try.prog 77 #[va, vx, .int .i64 ((n : Int) + 1)] w (Rooted B0 w r) := by
  have HA := hid ha
  have HX := hid hx
  have HR := hid hr
  have WA := hid ha.1
  have a0 := hid (val_nonneg ha.1)
  clear ha hx hr
  go_enter Try.func77, Try.ntmps77
  go_wp2_with fail
  go_loopg [1] (val us0).toNat (fun g s1 wx => ∃ us : List Int, (g : Int) = val us ∧ Hid (OwnIf B0 r wx s1 us) ∧ Hid (Canon us) ∧ r ≤ val us ∧ us.length ≤ us0.length ∧ Hid (Below w.heap.size w wx))
  case atStart => exact ⟨us0, Int.toNat_of_nonneg (by omega), HX, hcu, hgt, Nat.le_refl _, Below.refl _ _⟩
  case round =>
    clear HX hcu hgt
    obtain ⟨us, hg, OU, CU, hge, hlu, KK⟩ := hrel
    have hun : us.length * n ≤ us0.length * n := Nat.mul_le_mul_right _ hlu
    have HP := hid (power_any (n := n) OU.out.sl (by omega) (by omega) (by omega))
    have u0 : 0 < val us := by omega
    have ek : (n : Int) + 1 - 1 = (n : Int) := by omega
    have X0 := val_nonneg CU.out.1
    have X1 := hid (val_lt_pw CU.out.1)
    go_wp2_with fail
    refine HP.out.mono ?_
    rintro e w1 ⟨ps, vp, rfl, mp, cp, ep, b1⟩
    have lp := pow_len X0 X1.out cp ep
    have pp : 0 < val ps := by rw [ep]; exact Int.pow_pos u0
    have K1 := hid (below_step KK.out b1)
    have HD := hid (divMod_any (HA.out.now K1.out) mp.sl (wid_ne3 pp) lx (by omega))
    have EP := hid ep
    have OU1 := hid (OU.out.stay b1)
    clear HP mp b1 ep
    go_wp2_with fail
    refine HD.out.mono ?_
    rintro e w2 ⟨qs, rs, vq, vr, rfl, oq, or', cq, cr, ev, hlt, hlq, hlr, _, b2⟩
    have K2 := hid (below_step K1.out b2)
    have HQ : Hid (val xs / val us ^ n = val qs) := by unfold Hid; rw [← EP.out]; exact div_is ev (val_nonneg cr.1) hlt
    have OU2 := hid (OU1.out.stay b2)
    have SQ2 := hid oq.sl
    have HW := hid (word_any OU2.out.sl (W := (n : Int)) (by unfold IsW wB; omega) (by omega))
    obtain ⟨qa, qc, rfl⟩ := oq.form
    obtain ⟨ra, rc, rfl⟩ := or'.form
    have ew : IntKind.u64.wrap (n : Int) = (n : Int) := by rw [IntKind.wrap_u64]; omega
    have ew1 : IntKind.u64.wrap ((n : Int) + 1) = (n : Int) + 1 := by rw [IntKind.wrap_u64]; omega
    clear HD oq or' cr ev hlt hlr b2 OU1 EP
    go_wp2_with fail
    refine HW.out.mono ?_
    rintro e w3 ⟨ts, vt, rfl, mt, ct, et, b3⟩
    have lt := mul_lenR (ys := [(n : Int)]) CU.out.1 (WF.cons (by unfold IsW wB; omega) WF.nil) ct (by rw [et]; simp [val])
    simp only [List.length_cons, List.length_nil] at lt
    have K3 := hid (below_step K2.out b3)
    have OU3 := hid (OU2.out.stay b3)
    have HS := hid (add_now mt.sl (SQ2.out.now b3) (by omega) (by omega))
    have ET := hid et
    clear HW mt b3 et OU2 SQ2
    go_wp2_with fail
    refine HS.out.mono ?_
    rintro e w4 ⟨ss, vs, rfl, ssl, cs, es, _, b4⟩
    have K4 := hid (below_step K3.out b4)
    have OU4 := hid (OU3.out.stay b4)
    have HDW := hid (divWord_any (W := (n : Int) + 1) ssl (by unfold IsW wB; omega) (by omega))
    have ES := hid es
    clear HS ssl b4 es OU3
    go_wp2_with fail
    refine HDW.out.mono ?_
    rintro e w5 ⟨ns, vn', rn, rfl, on, cn, hrw, hrl, env, hln, b5⟩
    have K5 := hid (below_step K4.out b5)
    have OU5 := hid (OU4.out.stay b5)
    have HNV : Hid (val ns = ((n : Int) * val us + val xs / val us ^ n) / ((n : Int) + 1)) := by
      unfold Hid
      rw [HQ.out, Int.mul_comm, ← ET.out, ← ES.out]
      exact (div_is env hrw.1 hrl).symm
    have HC := hid (cmp_now on.sl OU5.out.sl)
    have ON := hid (on.lower (B' := B0) (by have := K4.out.size; omega))
    obtain ⟨na, nc, rfl⟩ := on.form
    clear HDW on b5 env OU4 hrw hrl
    by_cases hcmp : val us ≤ val ns
    · have hc := cmpI_nonneg hcmp
      have hur : val us = r := by
        rcases Int.lt_or_eq_of_le hge with t | t
        · have := newton_down (n := n) u0 HR.out.1 a0.out HR.out.2.2 t
          rw [← HNV.out] at this
          omega
        · exact t.symm
      have HUR := hid hur
      generalize cmpI (val ns) (val us) = CC at *
      have hc2 : 0 ≤ CC := by omega
      clear hur hcmp hg
      go_wp2_with fail
      refine HC.out.mono ?_
      rintro e w6 ⟨rfl, b6⟩
      have K6 := hid (below_step K5.out b6)
      have OU6 := hid (OU5.out.stay b6)
      clear HC b6
      go_wp2
      go_ret
      exact ⟨us, _, rfl, OU6.out.2 HUR.out, CU.out, HUR.out, K6.out⟩
    · have hc := cmpI_neg (show val ns < val us by omega)
      have hnr : r ≤ val ns := by rw [HNV.out]; exact newton_low (n := n) u0 HR.out.1 HR.out.2.1
      have hll := canon_len_le cn CU.out (by omega)
      generalize cmpI (val ns) (val us) = CC at *
      have hc2 : ¬ 0 ≤ CC := by omega
      have HG2 : Hid (((val ns).toNat : Int) = val ns ∧ (val ns).toNat < gk) := ⟨Int.toNat_of_nonneg (by omega), by omega⟩
      clear hcmp hg
      go_wp2_with fail
      refine HC.out.mono ?_
      rintro e w6 ⟨rfl, b6⟩
      have K6 := hid (below_step K5.out b6)
      have ON6 := hid ((ON.out.stay b6).ownIf (r := r))
      clear HC b6
      go_wp2_with fail
      go_roundg (val ns).toNat
      case rel => exact ⟨ns, HG2.out.1, ON6, cn, hnr, by omega, K6⟩
      case measure => exact HG2.out.2

/- BitPure -/

theorem or_bit {z p : Nat} (hz : z % 2 ^ (p + 1) = 0) : z ||| 2 ^ p = z + 2 ^ p := by
  obtain ⟨q, hq⟩ := Nat.dvd_of_mod_eq_zero hz
  subst hq
  exact (Nat.two_pow_add_eq_or_of_lt (Nat.pow_lt_pow_right (by omega) (by omega)) q).symm
theorem bits_or_bit {z p : Nat} (hz : z % 2 ^ (p + 1) = 0) (hzw : z < 18446744073709551616) (hp : p < 64) : bits .or .u64 (z : Int) ((2 ^ p : Nat) : Int) = ((z + 2 ^ p : Nat) : Int) := by
  have h2 : 2 ^ p < 18446744073709551616 := Nat.lt_of_lt_of_le (Nat.pow_lt_pow_right (by omega) hp) (by decide : 2 ^ 64 ≤ 18446744073709551616)
  rw [bits_or_nat _ _ hzw h2, or_bit hz]
theorem bits_andNot_bit {z p : Nat} (hz : z % 2 ^ (p + 1) = 0) (hzw : z + 2 ^ p < 18446744073709551616) (hp : p < 64) : bits .andNot .u64 ((z + 2 ^ p : Nat) : Int) ((2 ^ p : Nat) : Int) = (z : Int) := by
  have h2 : 2 ^ p < 18446744073709551616 := by omega
  have h1 : (BitVec.ofInt 64 ((z + 2 ^ p : Nat) : Int)).toNat = z + 2 ^ p := by
    rw [BitVec.ofInt_natCast, BitVec.toNat_ofNat]; exact Nat.mod_eq_of_lt (by omega)
  have h3 : (BitVec.ofInt 64 ((2 ^ p : Nat) : Int)).toNat = 2 ^ p := by
    rw [BitVec.ofInt_natCast, BitVec.toNat_ofNat]; exact Nat.mod_eq_of_lt (by omega)
  have key : (BitVec.ofInt 64 ((z + 2 ^ p : Nat) : Int) &&& ~~~ BitVec.ofInt 64 ((2 ^ p : Nat) : Int)) = BitVec.ofNat 64 z := by
    apply BitVec.eq_of_getLsbD_eq
    intro i hi
    rw [BitVec.getLsbD_and, BitVec.getLsbD_not]
    simp only [BitVec.getLsbD, h1, h3, BitVec.toNat_ofNat]
    rw [← or_bit hz, Nat.testBit_or, Nat.mod_eq_of_lt (show z < 2 ^ 64 by omega)]
    by_cases hip : i = p
    · subst hip
      have : z.testBit i = false := by
        rw [Nat.testBit_eq_decide_div_mod_eq]
        obtain ⟨q, rfl⟩ := Nat.dvd_of_mod_eq_zero hz
        rw [Nat.pow_succ, Nat.mul_assoc, Nat.mul_div_cancel_left _ (Nat.two_pow_pos i)]
        simp
      simp [this, Nat.testBit_two_pow_self]
    · rw [Nat.testBit_two_pow_of_ne (by omega)]
      simp [hi]
  show IntKind.u64.wrap ((BitVec.ofInt 64 ((z + 2 ^ p : Nat) : Int) &&& ~~~ BitVec.ofInt 64 ((2 ^ p : Nat) : Int)).toNat : Int) = _
  rw [key, BitVec.toNat_ofNat, Nat.mod_eq_of_lt (show z < 2 ^ 64 by omega), IntKind.wrap_u64]
  omega
/-- The word in which bit j lies, all bits up to j being 0. -/
theorem word_low {R : List Int} (hR : WF R) {j N : Nat} (hj : j / 64 < R.length) (h : vn R = N * 2 ^ (j + 1)) : (R[j / 64]).toNat % 2 ^ (j % 64 + 1) = 0 := by
  have e : R = R.take (j / 64) ++ (R[j / 64] :: R.drop (j / 64 + 1)) := by rw [← List.drop_eq_getElem_cons hj, List.take_append_drop]
  have hl : (R.take (j / 64)).length = j / 64 := by simp; omega
  have hA := vn_lt (hR.take (j / 64))
  rw [hl] at hA
  have ev : vn R = vn (R.take (j / 64)) + 2 ^ (64 * (j / 64)) * ((R[j / 64]).toNat + 2 ^ 64 * vn (R.drop (j / 64 + 1))) := by
    conv => lhs; rw [e]
    rw [vn_append, hl]
    rfl
  generalize (R[j / 64]).toNat = z at *
  generalize vn (R.drop (j / 64 + 1)) = C at *
  generalize vn (R.take (j / 64)) = A at *
  have hs : 2 ^ (j + 1) = 2 ^ (64 * (j / 64)) * 2 ^ (j % 64 + 1) := by rw [← Nat.pow_add]; congr 1; omega
  have h64 : 2 ^ 64 = 2 ^ (j % 64 + 1) * 2 ^ (63 - j % 64) := by rw [← Nat.pow_add]; congr 1; omega
  rw [h, hs, Nat.mul_left_comm] at ev
  have hP := Nat.two_pow_pos (64 * (j / 64))
  generalize 2 ^ (64 * (j / 64)) = P at *
  generalize 2 ^ (j % 64 + 1) = Q at *
  have h0 : (P * (N * Q)) / P = (A + P * (z + 2 ^ 64 * C)) / P := by rw [ev]
  rw [Nat.mul_div_cancel_left _ hP, Nat.add_mul_div_left _ _ hP, Nat.div_eq_of_lt hA, Nat.zero_add, h64, Nat.mul_assoc] at h0
  have h1 : z = N * Q - Q * (2 ^ (63 - j % 64) * C) := by omega
  have h2 : (N * Q) % Q = 0 := Nat.mul_mod_left _ _
  rw [h0, Nat.add_mul_mod_self_left] at h2
  exact h2

/- BitStep -/

theorem val_put : ∀ (xs : List Int) (i : Nat) (z : Int) (h : i < xs.length), val (xs.set i z) = val xs + (z - xs[i]) * pw i
  | [], i, z, h => absurd h (by simp)
  | x :: xs, 0, z, h => by simp [val, pw]; omega
  | x :: xs, i + 1, z, h => by
    have ih := val_put xs i z (by simpa using h)
    simp only [List.set_cons_succ, val, List.getElem_cons_succ, ih]
    rw [show pw (i + 1) = wB * pw i from rfl, Int.mul_add, ← Int.add_assoc]
    congr 1
    rw [Int.mul_left_comm]
/-- R holds the root's bits from j on. -/
def RootAt (r : Nat) (L : Nat) (j : Nat) (R : List Int) : Prop := R.length = L ∧ WF R ∧ vn R = r / 2 ^ j * 2 ^ j
theorem half_bit (r j : Nat) : r / 2 ^ j = 2 * (r / 2 ^ (j + 1)) + r / 2 ^ j % 2 := by
  rw [Nat.pow_succ, ← Nat.div_div_eq_div_mul]; omega
/-- The bit j put into its word: the word, the list, the number. -/
theorem RootAt.put {r L j : Nat} {R : List Int} (h : RootAt r L (j + 1) R) (hj : j / 64 < R.length) :
    ∃ z : Nat, R[j / 64] = (z : Int) ∧ z % 2 ^ (j % 64 + 1) = 0 ∧ z + 2 ^ (j % 64) < 18446744073709551616 ∧ WF (R.set (j / 64) ((z + 2 ^ (j % 64) : Nat) : Int)) ∧ vn (R.set (j / 64) ((z + 2 ^ (j % 64) : Nat) : Int)) = (2 * (r / 2 ^ (j + 1)) + 1) * 2 ^ j := by
  obtain ⟨h1, h2, h3⟩ := h
  have hw : IsW R[j / 64] := h2 _ (List.getElem_mem hj)
  unfold IsW wB at hw
  have hz := word_low h2 hj h3
  have hp : 2 ^ (j % 64 + 1) * 2 ^ (63 - j % 64) = 18446744073709551616 := by rw [← Nat.pow_add, show j % 64 + 1 + (63 - j % 64) = 64 by omega]
  have hP := Nat.two_pow_pos (j % 64)
  have hlt : R[j / 64].toNat + 2 ^ (j % 64) < 18446744073709551616 := by
    obtain ⟨q, hq⟩ := Nat.dvd_of_mod_eq_zero hz
    have hlt0 : R[j / 64].toNat < 18446744073709551616 := by omega
    rw [hq] at hlt0 ⊢
    rw [← hp] at hlt0 ⊢
    have hq2 : q < 2 ^ (63 - j % 64) := Nat.lt_of_mul_lt_mul_left hlt0
    have := Nat.mul_le_mul_left (2 ^ (j % 64 + 1)) hq2
    rw [Nat.mul_succ] at this
    rw [Nat.pow_succ] at this ⊢
    omega
  have hwf : WF (R.set (j / 64) ((R[j / 64].toNat + 2 ^ (j % 64) : Nat) : Int)) := h2.set _ (by unfold IsW wB; omega)
  refine ⟨R[j / 64].toNat, by omega, hz, hlt, hwf, ?_⟩
  have hv := val_put R (j / 64) ((R[j / 64].toNat + 2 ^ (j % 64) : Nat) : Int) hj
  rw [val_vn hwf, val_vn h2, show ((R[j / 64].toNat + 2 ^ (j % 64) : Nat) : Int) - R[j / 64] = ((2 ^ (j % 64) : Nat) : Int) by omega] at hv
  have hpw : pw (j / 64) = ((2 ^ (64 * (j / 64)) : Nat) : Int) := by rw [pw_pow]; push_cast; rfl
  rw [hpw, ← Int.natCast_mul, ← Int.natCast_add] at hv
  have hv2 := Int.ofNat.inj hv
  rw [hv2, h3, ← Nat.pow_add, show j % 64 + 64 * (j / 64) = j by omega, Nat.pow_succ, Nat.add_mul, Nat.one_mul]
  congr 1
  rw [Nat.mul_comm (2 ^ j) 2, ← Nat.mul_assoc, Nat.mul_comm (_ / _) 2]
/-- The bit is in the root exactly if the list with it is not above the root. -/
theorem bit_in {r j : Nat} (h : (2 * (r / 2 ^ (j + 1)) + 1) * 2 ^ j ≤ r) : (2 * (r / 2 ^ (j + 1)) + 1) = r / 2 ^ j := by
  have h1 := (Nat.le_div_iff_mul_le (Nat.two_pow_pos j)).2 h
  have := half_bit r j
  omega
theorem bit_out {r j : Nat} (h : r < (2 * (r / 2 ^ (j + 1)) + 1) * 2 ^ j) : r / 2 ^ (j + 1) * 2 ^ (j + 1) = r / 2 ^ j * 2 ^ j := by
  have h1 := (Nat.div_lt_iff_lt_mul (Nat.two_pow_pos j)).2 h
  have h2 := half_bit r j
  have h3 : r / 2 ^ j = 2 * (r / 2 ^ (j + 1)) := by omega
  rw [h3, Nat.pow_succ, Nat.mul_comm (2 ^ j) 2, ← Nat.mul_assoc, Nat.mul_comm (_ / _) 2]
theorem RootAt.zero {r L P : Nat} (h : r < 2 ^ P) : RootAt r L P (List.replicate L 0) := by
  refine ⟨by simp, fun x hx => by rw [List.eq_of_mem_replicate hx]; unfold IsW wB; omega, ?_⟩
  rw [Nat.div_eq_of_lt h, Nat.zero_mul]
  induction L with
  | zero => rfl
  | succ n ih => rw [List.replicate_succ]; show (0 : Int).toNat + _ * _ = 0; rw [ih]; rfl
/-- The k-th power tells on which side of the root a number lies. -/
theorem pow_above {x r a : Int} {k : Nat} (hr : IsRoot r a k) (h : r < x) : a < x ^ k :=
  Int.lt_of_lt_of_le hr.2.2 (pow_mono3 (by have := hr.1; omega) (by omega) k)
theorem pow_not_above {x r a : Int} {k : Nat} (hr : IsRoot r a k) (h0 : 0 ≤ x) (h : x ≤ r) : x ^ k ≤ a :=
  Int.le_trans (pow_mono3 h0 h k) hr.2.1

/- BitByBit -/

theorem canon_from {zs : List Int} (hz : WF zs) {t : Nat} (hl : zs.length = t + 1) (h : pw t ≤ val zs) : Canon zs := by
  refine ⟨hz, ?_⟩
  have h1 := val_lt_pw (canon_lst hz).1
  have h2 := wid_le zs
  rw [val_lst, length_lst] at h1
  rcases Nat.lt_or_ge (wid zs) zs.length with q | q
  · exfalso
    have : pw (wid zs) ≤ pw t := by
      rw [show t = wid zs + (t - wid zs) by omega, pw_add]
      have := Int.mul_le_mul_of_nonneg_left (show (1 : Int) ≤ pw (t - wid zs) by have := pw_pos (t - wid zs); omega) (Int.le_of_lt (pw_pos (wid zs)))
      omega
    omega
  · omega
theorem set_back (R : List Int) (i : Nat) (x y : Int) (h : i < R.length) (e : R[i] = y) : (R.set i x).set i y = R := by
  rw [List.set_set, ← e, List.set_getElem_self]

set_option maxHeartbeats 3200000 in
set_option maxRecDepth 100000 in
theorem bitByBit_any {w : World} {va : Value} {xs : List Int} {n r P L : Nat} (ha : Sl w.heap.size w va xs) (hr : IsRoot (r : Int) (val xs) n) (hP : r < 2 ^ P) (hP1 : 1 ≤ P) (hP0 : 2 ^ (P - 1) ≤ r) (hL : L = (P + 63) / 64) (lL : L ≤ 1073741824) (lLn : L * n ≤ 8589934592) (hn32 : n < 4294967296) :
    Calls Try.prog 75 #[va, .int .i64 (n : Int), .int .i64 (P : Int)] w (Rooted w.heap.size w (r : Int)) := by
  have HA := hid ha
  have HR := hid hr
  have HS := hid (RootAt.zero (L := L) hP)
  have e1 : ((P : Int) + 64 - 1) / 64 = (L : Int) := by omega
  have HP0 := hid hP0
  clear ha hr hP hP0 hL
  go_enter Try.func75, Try.ntmps75
  go_wp2_with (at_make; refine wpList_make_words _ rfl _ _ rfl _ _ L L rfl rfl (by omega) (by omega) (Nat.le_refl _) (by omega) ?_)
  intro w2 hrow hb2 hsz2
  have HM := hid (And.intro hrow hb2)
  clear hrow hb2 hsz2
  go_wp2_with fail
  go_loopw [8] (fun i wr => ∃ (k : Nat) (R : List Int), k ≤ P ∧ i = .int .i64 ((k : Int) - 1) ∧ Hid (RootAt r L k R) ∧ Hid (Row wr w.heap.size (ws R)) ∧ Hid (Below w.heap.size w wr)) (fun i _ => (intOf i + 1).toNat)
  case atStart => exact ⟨P, _, Nat.le_refl _, rfl, HS, HM.out.1, HM.out.2⟩
  case round =>
    clear HS HM
    obtain ⟨k, R, hk, rfl, RA, HW, HB⟩ := hrel
    by_cases hk0 : k = 0
    · subst hk0
      go_wp2
      go_ret
      obtain ⟨a1, a2, a3⟩ := RA.out
      have hv : val R = (r : Int) := by rw [val_vn a2, a3, Nat.pow_zero, Nat.div_one, Nat.mul_one]
      refine ⟨R, _, rfl, ?_, ?_, hv, HB.out⟩
      · refine ⟨a2, .inr ⟨w.heap.size, [], Nat.le_refl _, by simp; omega, ?_, by simpa using HW.out⟩⟩
        simp [a1]
      · refine canon_from a2 (t := (P - 1) / 64) (by omega) ?_
        rw [hv, pw_pow]
        have h1 : 2 ^ (64 * ((P - 1) / 64)) ≤ 2 ^ (P - 1) := Nat.pow_le_pow_right (by omega) (by omega)
        have h2 := HP0.out
        have h3 : ((2 : Int) ^ (64 * ((P - 1) / 64))) = ((2 ^ (64 * ((P - 1) / 64)) : Nat) : Int) := by push_cast; rfl
        rw [h3]
        omega
    · obtain ⟨j, rfl⟩ : ∃ j, k = j + 1 := ⟨k - 1, by omega⟩
      have ej : ((j + 1 : Nat) : Int) - 1 = (j : Int) := by omega
      have hjl : j / 64 < R.length := by rw [RA.out.1]; omega
      obtain ⟨z, hz, hzm, hzl, hwf, hvn⟩ := RA.out.put hjl
      obtain ⟨d, hd⟩ : ∃ d, j / 64 = d := ⟨_, rfl⟩
      obtain ⟨p, hp⟩ : ∃ p, j % 64 = p := ⟨_, rfl⟩
      have ed : (j : Int) / 64 = (d : Int) := by omega
      have ep : (j : Int) % 64 = (p : Int) := by omega
      have i0 : (0 : Int) ≤ (d : Int) := by omega
      have i1 : (0 : Int) ≤ (p : Int) := by omega
      have hdL : d < L := by rw [← hd, ← RA.out.1]; exact hjl
      have i2 : (d : Int) < (L : Int) := by omega
      have hp64 : p < 64 := by omega
      simp only [hd, hp] at hz hzm hzl hwf hvn hjl
      have e_or := bits_or_bit hzm (by omega) hp64
      have e_an := bits_andNot_bit hzm hzl hp64
      have ewr : IntKind.u64.wrap (2 ^ p) = ((2 ^ p : Nat) : Int) := by
        have h1 : ((2 : Int) ^ p) = ((2 ^ p : Nat) : Int) := by push_cast; rfl
        rw [h1, IntKind.wrap_u64]; omega
      obtain ⟨y, hy⟩ : ∃ y, z + 2 ^ p = y := ⟨_, rfl⟩
      rw [hy] at e_or e_an hwf hvn
      obtain ⟨T, hT⟩ : ∃ T, 2 ^ p = T := ⟨_, rfl⟩
      rw [hT] at e_or e_an ewr
      have c1 : ∀ q, (wr.drewN q).cell? ⟨w.heap.size, d, none⟩ = some (.int .u64 (z : Int)) := fun q => by
        have := Row.word (r := []) (by simpa using HW.out.drewN q) hjl
        rw [hz] at this; exact this
      have cf : ∀ q, (wr.drewN q).frozen? ⟨w.heap.size, d, none⟩ = false := fun q => (HW.out.drewN q).frozen d
      obtain ⟨R1, hR1⟩ : ∃ R1, R.set d (y : Int) = R1 := ⟨_, rfl⟩
      have HR1 : Hid (∀ m, Row ((wr.drewN m).setCell ⟨w.heap.size, d, none⟩ (.int .u64 (y : Int))) w.heap.size (ws R1)) := fun m => by
        have := Row.setWord (r := []) (by simpa using HW.out.drewN m) hjl (y : Int)
        rw [hR1] at this
        simpa using this
      have HB1 : Hid (∀ m, Below w.heap.size w ((wr.drewN m).setCell ⟨w.heap.size, d, none⟩ (.int .u64 (y : Int)))) := fun m =>
        (below_drewN HB.out m).setCell (p := ⟨w.heap.size, d, none⟩) (Nat.le_refl _) (.int .u64 (y : Int))
      have hl1 : R1.length = L := by rw [← hR1, List.length_set]; exact RA.out.1
      have HBK : Hid (R1.set d (z : Int) = R) := by unfold Hid; rw [← hR1]; exact set_back R d _ _ hjl hz
      have HY1 : Hid (∀ h : d < R1.length, R1[d] = (y : Int)) := by subst hR1; intro h; simp
      rw [hR1] at hwf hvn
      have HWF := hid hwf
      have HVN : Hid (val R1 = ((2 * (r / 2 ^ (j + 1)) + 1) * 2 ^ j : Nat)) := by unfold Hid; rw [val_vn hwf, hvn]
      have HPW : Hid (∀ wy, Row wy w.heap.size (ws R1) → Calls Try.prog 101 #[.slice (some ⟨w.heap.size, 0, none⟩) L L, .int .i64 (n : Int)] wy (Makes wy (val R1 ^ n))) := fun wy hrw => by
        have hsl := Row.sl (r := []) (by simpa using hrw) HWF.out (cap := L) (by omega) (by omega) hrw.lt
        rw [hl1] at hsl
        exact power_any hsl (by omega) (by rw [hl1]; exact lLn) hn32
      clear HW HB hwf hvn hR1 hy hzl hzm hT
      go_wp2_with fail
      go_quiet (fail)
      go_wp2_with fail
      refine (HPW.out _ (HR1.out _)).mono ?_
      rintro e w3 ⟨ps, vp, rfl, mp, cp, ep2, b3⟩
      have R3 := hid ((HR1.out _).below b3 (HR1.out _).lt)
      have K3 := hid (below_step (HB1.out _) b3)
      have HC := hid (cmp_now mp.sl (HA.out.now K3.out))
      rw [ep2] at HC
      clear HR1 HB1 HPW mp ep2 b3 cp
      by_cases hle : (2 * (r / 2 ^ (j + 1)) + 1) * 2 ^ j ≤ r
      · have hc2 : ¬ 0 < cmpI (val R1 ^ n) (val xs) := by
          have := pow_not_above HR.out (by rw [HVN.out]; omega) (show val R1 ≤ (r : Int) by rw [HVN.out]; omega)
          rcases Int.lt_or_eq_of_le this with t | t
          · rw [cmpI_lt t]; omega
          · rw [t]; unfold cmpI; simp
        have RA1 : Hid (RootAt r L j R1) := ⟨hl1, HWF.out, by
          have := HVN.out
          rw [val_vn HWF.out] at this
          rw [Int.ofNat.inj this, bit_in hle]⟩
        generalize cmpI (val R1 ^ n) (val xs) = CC at *
        clear hle HVN
        go_wp2_with fail
        refine HC.out.mono ?_
        rintro e w4 ⟨rfl, b4⟩
        have R4 := hid (R3.out.below b4 R3.out.lt)
        have K4 := hid (below_step K3.out b4)
        clear HC R3 K3 b4
        go_wp2
        go_roundw
        case rel => exact ⟨j, R1, by omega, by go_num, RA1, R4, K4⟩
        case measure => simp [intOf]
      · have hc2 : 0 < cmpI (val R1 ^ n) (val xs) := by
          have := pow_above HR.out (show (r : Int) < val R1 by rw [HVN.out]; omega)
          rw [cmpI_gt this]; omega
        have RA1 : Hid (RootAt r L j R) := ⟨RA.out.1, RA.out.2.1, by rw [RA.out.2.2]; exact bit_out (by omega)⟩
        have hd1 : d < R1.length := by omega
        have hy1 : R1[d] = (y : Int) := HY1.out hd1
        generalize cmpI (val R1 ^ n) (val xs) = CC at *
        clear hle HVN
        go_wp2_with fail
        refine HC.out.mono ?_
        rintro e w4 ⟨rfl, b4⟩
        have R4 := R3.out.below b4 R3.out.lt
        have K4 := hid (below_step K3.out b4)
        have c4 : w4.cell? ⟨w.heap.size, d, none⟩ = some (.int .u64 (y : Int)) := by
          have := Row.word (r := []) (by simpa using R4) hd1
          rw [hy1] at this; exact this
        have cf4 : w4.frozen? ⟨w.heap.size, d, none⟩ = false := R4.frozen d
        have HR5 : Hid (Row (w4.setCell ⟨w.heap.size, d, none⟩ (.int .u64 (z : Int))) w.heap.size (ws R)) := by
          have := Row.setWord (r := []) (by simpa using R4) hd1 (z : Int)
          rw [HBK.out] at this
          simpa [Hid] using this
        have HB5 : Hid (Below w.heap.size w (w4.setCell ⟨w.heap.size, d, none⟩ (.int .u64 (z : Int)))) := K4.out.setCell (p := ⟨w.heap.size, d, none⟩) (Nat.le_refl _) (.int .u64 (z : Int))
        clear HC R3 K3 b4 R4 K4
        go_wp2
        go_roundw
        case rel => exact ⟨j, R, by omega, by go_num, RA1, HR5, HB5⟩
        case measure => simp [intOf]

/- RootPure -/

def NRoot (r a k : Nat) : Prop := r ^ k ≤ a ∧ a < (r + 1) ^ k
theorem nroot_ex {k : Nat} (hk : 1 ≤ k) : ∀ a : Nat, ∃ r, NRoot r a k
  | 0 => ⟨0, by rw [Nat.zero_pow (by omega)]; exact Nat.le_refl _, by simp⟩
  | a + 1 => by
    obtain ⟨r, h1, h2⟩ := nroot_ex hk a
    by_cases h : (r + 1) ^ k ≤ a + 1
    · refine ⟨r + 1, h, ?_⟩
      have : (r + 1) ^ k < (r + 1 + 1) ^ k := Nat.pow_lt_pow_left (by omega) (by omega)
      omega
    · exact ⟨r, by omega, by omega⟩
theorem NRoot.is {r a k : Nat} (h : NRoot r a k) : IsRoot (r : Int) (a : Int) k := by
  refine ⟨by omega, ?_, ?_⟩
  · have := h.1; rw [← Int.natCast_pow]; omega
  · have := h.2
    have e : ((r : Int) + 1) ^ k = (((r + 1) ^ k : Nat) : Int) := by push_cast; rfl
    rw [e]; omega
theorem NRoot.le {r a k x : Nat} (h : NRoot r a k) (hx : x ^ k ≤ a) : x ≤ r := by
  rcases Nat.lt_or_ge r x with q | q
  · have := Nat.pow_le_pow_left q k
    have := h.2
    simp only [Nat.succ_eq_add_one] at *
    omega
  · exact q
theorem NRoot.lt {r a k x : Nat} (h : NRoot r a k) (hx : a < x ^ k) : r < x := by
  rcases Nat.lt_or_ge r x with q | q
  · exact q
  · have := Nat.pow_le_pow_left q k
    have := h.1
    omega
theorem bitLen_has {a : Nat} (h : a ≠ 0) : 2 ^ (bitLen a - 1) ≤ a ∧ a < 2 ^ bitLen a := by
  unfold bitLen
  rw [if_neg h]
  exact ⟨Nat.log2_self_le h, Nat.lt_log2_self⟩
/-- The root has as many binary digits as said. -/
theorem NRoot.places {r a k : Nat} (h : NRoot r a k) (hk : 1 ≤ k) (ha : a ≠ 0) : 2 ^ ((bitLen a - 1) / k) ≤ r ∧ r < 2 ^ ((bitLen a - 1) / k + 1) := by
  obtain ⟨h1, h2⟩ := bitLen_has ha
  have hd := Nat.div_add_mod (bitLen a - 1) k
  have hm := Nat.mod_lt (bitLen a - 1) hk
  have hb : 0 < bitLen a := by unfold bitLen; rw [if_neg ha]; omega
  generalize bitLen a = b at *
  constructor
  · refine h.le (Nat.le_trans ?_ h1)
    rw [← Nat.pow_mul]
    exact Nat.pow_le_pow_right (by omega) (by rw [Nat.mul_comm]; omega)
  · refine h.lt (Nat.lt_of_lt_of_le h2 ?_)
    rw [← Nat.pow_mul]
    exact Nat.pow_le_pow_right (by omega) (by rw [Nat.add_mul, Nat.one_mul, Nat.mul_comm]; omega)
/-- One above the root of the upper part, behind s bits, is above the root. -/
theorem NRoot.upper {r a k s q : Nat} (h : NRoot r a k) (hq : NRoot q (a / 2 ^ (k * s)) k) : r < (q + 1) * 2 ^ s := by
  refine h.lt ?_
  rw [Nat.mul_pow, ← Nat.pow_mul, Nat.mul_comm s k]
  exact Nat.lt_of_lt_of_le (Nat.lt_of_lt_of_eq (Nat.lt_mul_div_succ a (Nat.two_pow_pos (k * s))) (Nat.mul_comm _ _)) (Nat.mul_le_mul_right _ hq.2)
/-- And it is at most the root and 2 to the s. -/
theorem NRoot.near {r a k s q : Nat} (h : NRoot r a k) (hq : NRoot q (a / 2 ^ (k * s)) k) : q * 2 ^ s ≤ r := by
  refine h.le ?_
  rw [Nat.mul_pow, ← Nat.pow_mul, Nat.mul_comm s k]
  exact Nat.le_trans (Nat.mul_le_mul_right _ hq.1) (Nat.div_mul_le_self _ _)

/- Onto -/

theorem wpList_append_onto (w : World) {ops : Array Oper} {rest : List Oper} {o : Oper} {a : Act} {Q : Exit → Act → World → Prop}
    (hg : o.guard = none) (s x : Operand) (hop : o.op = Op.call { callee := Callee.builtin Builtin.append, args := #[s, x], argTypes := #[25, 25] })
    (g N : Nat) (v : Value) (zs xs : List Int) (hs : a.eval s = .slice (some ⟨g, 0, none⟩) N N) (hz : WF zs) (hN : zs.length = N) (hrow : Row w g (ws zs)) (hx : a.eval x = v) (hsl : Sl w.heap.size w v xs) (hne : xs ≠ []) (hmx : N + xs.length ≤ 1099511627776)
    (hK : ∀ v' w', Hid (Sl w'.heap.size w' v' (zs ++ xs)) → Hid (Below w.heap.size w w') → wpList Try.prog ops Q rest (a.put o.dst v') w') :
    wpList Try.prog ops Q (o :: rest) a w := by
  obtain ⟨i, hi, hz0, hsz, hb⟩ := info_parts Try.infoW
  obtain ⟨hw, ad, cap, rfl, hlc, hcm, hm⟩ := hsl
  rcases hm with e | ⟨b, off, h1, h2, h3⟩
  · exact absurd e hne
  subst h1
  have hpos : 0 < xs.length := List.length_pos_iff.2 hne
  refine wpList_append_grows w hg s x 25 hop 26 i _ 1 8 Try.underlying25 hi hz0 hsz hb rfl (by omega) (some ⟨g, 0, none⟩) N N (ws zs) hs (fun e => by cases e) (by simp [length_ws, hN]) (fun b' e => ?_) ⟨b, off, none⟩ xs.length cap (ws xs) hx (by simp [length_ws]) ?_ ?_ (by omega) (by unfold maxLen; omega) (by omega) ?_
  · cases e
    intro j u hj
    have hj' : j < zs.length := by
      have := (List.getElem?_eq_some_iff.1 hj).1
      simpa [length_ws] using this
    have e : (⟨g, 0, none⟩ : Addr).add j = ⟨g, j, none⟩ := by unfold Addr.add; split <;> simp_all
    rw [e, Row.word (r := []) (by simpa using hrow) hj', ← hj]
    simp [ws, hj']
  · intro j u hj
    have hj' : j < xs.length := by
      have := (List.getElem?_eq_some_iff.1 hj).1
      simpa [length_ws] using this
    have e : (⟨b, off, none⟩ : Addr).add j = ⟨b, off + j, none⟩ := by unfold Addr.add; split <;> simp_all
    rw [e, h3 j hj', ← hj]
    simp [ws, hj']
  · intro u hu
    simp only [ws, List.mem_map] at hu
    obtain ⟨y, _, rfl⟩ := hu
    rfl
  · intro v' w' ho hgr
    refine hK v' w' ?_ ((Below.refl _ _).grown hgr (Nat.le_refl _) (fun k hk => by cases hk))
    obtain ⟨_, ⟨_, h2'⟩ | ⟨g', cap', cur, e2, e3, e4, e5, e6, e7, e8⟩⟩ := ho
    · omega
    · subst e2
      have hrw : Row w' g' (ws (zs ++ xs) ++ cur.toList.drop (N + xs.length)) := by
        rw [Nat.mul_one] at e8
        have e : ws (zs ++ xs) = cur.toList.take (N + xs.length) := by rw [e8]; simp [ws]
        unfold Row
        rw [e, List.take_append_drop, Array.toArray_toList]
        exact e4
      have := row_sl (cap := cap') (B := w'.heap.size) hrw (fun y hy => by
        rcases List.mem_append.1 hy with q | q
        · exact hz y q
        · exact hw y q) (by simp; omega) (by simp; omega) hrw.lt
      rw [List.length_append, hN] at this
      exact this

/- RootAny -/

def RootOk (N : Nat) : Prop := ∀ (w : World) (va : Value) (xs : List Int) (k r : Nat), Sl w.heap.size w va xs → 2 ≤ k → k < 4294967296 → vn xs ≠ 0 → xs.length ≤ 1073741824 → NRoot r (vn xs) k → vn xs < N → Calls Try.prog 47 #[va, .int .i64 (k : Int)] w (Rooted w.heap.size w (r : Int))

theorem canon_bits {zs : List Int} (h : Canon zs) {n v : Nat} (hv : val zs = (v : Int)) (hn : v < 2 ^ n) : zs.length ≤ (n + 63) / 64 := by
  refine canon_len h ?_
  rw [hv, pw_pow]
  have h1 : 2 ^ n ≤ 2 ^ (64 * ((n + 63) / 64)) := Nat.pow_le_pow_right (by omega) (by omega)
  have e : (2 : Int) ^ (64 * ((n + 63) / 64)) = ((2 ^ (64 * ((n + 63) / 64)) : Nat) : Int) := by push_cast; rfl
  rw [e]
  omega
theorem onto_val (W : Nat) (ts : List Int) {s : Nat} (h : val ts = ((s + 1 : Nat) : Int)) : val (List.replicate W 0 ++ ts) = (((s + 1) * 2 ^ (64 * W) : Nat) : Int) := by
  rw [val_append, val_zeros, List.length_replicate, h, pw_pow, Int.zero_add, Int.mul_comm]
  push_cast
  rfl

set_option maxHeartbeats 3200000 in
set_option maxRecDepth 100000 in
theorem root_step {w : World} {va : Value} {xs : List Int} {k r : Nat} (ha : Sl w.heap.size w va xs) (h2 : 2 ≤ k) (hk32 : k < 4294967296) (hne : vn xs ≠ 0) (lx : xs.length ≤ 1073741824) (hr : NRoot r (vn xs) k) (IH : RootOk (vn xs)) : Calls Try.prog 47 #[va, .int .i64 (k : Int)] w (Rooted w.heap.size w (r : Int)) := by
  have HA := hid ha
  have HR := hid hr
  have HI := hid IH
  have HV := hid (val_vn ha.1)
  have HPL := hid (hr.places (by omega) hne)
  have HBL := hid (bitLen_any ha)
  have hb0 : 0 < bitLen (vn xs) := by unfold bitLen; rw [if_neg hne]; omega
  have hbl : bitLen (vn xs) ≤ 64 * xs.length := by
    unfold bitLen
    rw [if_neg hne]
    have := (Nat.log2_lt (n := vn xs) (k := 64 * xs.length) hne).2 (vn_lt ha.1)
    omega
  have HBH := hid (bitLen_has hne)
  generalize bitLen (vn xs) = b at *
  have HQ : Hid (k * ((b - 1) / k) ≤ b - 1) := Nat.mul_div_le _ _
  have eQ : ((b : Int) - 1) / (k : Int) = (((b - 1) / k : Nat) : Int) := by
    rw [show (b : Int) - 1 = ((b - 1 : Nat) : Int) by omega]; simp
  have hQb : (b - 1) / k ≤ b - 1 := Nat.div_le_self _ _
  obtain ⟨q, hq⟩ : ∃ q, (b - 1) / k = q := ⟨_, rfl⟩
  rw [hq] at HPL HQ eQ hQb
  have eT : ((b : Int) - 1).tdiv (k : Int) = (q : Int) := by rw [Int.tdiv_eq_ediv_of_nonneg (by omega)]; exact eQ
  have HLN := hid (bitsLen_any (x := (k : Int)) (by unfold IsW wB; omega) w)
  have hl64 : bitLen k ≤ 64 := by
    unfold bitLen
    split
    · omega
    · rename_i h0
      have := (Nat.log2_lt (n := k) (k := 64) h0).2 (by omega)
      omega
  rw [Int.toNat_natCast] at HLN
  generalize bitLen k = l at *
  have ew : IntKind.u64.wrap (k : Int) = (k : Int) := by rw [IntKind.wrap_u64]; omega
  have zk : ((k : Int) == 0) = false := by rw [beq_eq_false_iff_ne]; omega
  have zk2 : ¬ (k : Int) = 0 := by omega
  clear ha hr IH hq
  go_enter Try.func47, Try.ntmps47
  go_wp2_with fail
  refine HBL.out.mono ?_
  rintro e w1 ⟨rfl, rfl⟩
  clear HBL
  go_wp2_with fail
  refine HLN.out.mono ?_
  rintro e w1' ⟨rfl, rfl⟩
  clear HLN
  have hkq : 2 * q ≤ k * q := Nat.mul_le_mul_right _ h2
  have hq2 : 2 * q ≤ b - 1 := Nat.le_trans hkq HQ.out
  have hqk : k * q ≤ 68719476736 := by have := HQ.out; omega
  by_cases hW : (q : Int) + 1 - l < 128
  · have z1 : ((q : Int) + 1 - l).tdiv 128 ≤ 0 := by
      rcases Int.le_total 0 ((q : Int) + 1 - l) with t | t
      · rw [Int.tdiv_eq_ediv_of_nonneg t]; omega
      · have e : (q : Int) + 1 - l = -((l : Int) - q - 1) := by omega
        rw [e, Int.neg_tdiv, Int.tdiv_eq_ediv_of_nonneg (by omega)]
        omega
    have z2 : ((q : Int) + 1 - l) / 128 ≤ 0 := by omega
    have hLk : (q + 64) / 64 * k ≤ 8589934592 := by
      have h1 : 64 * ((q + 64) / 64) ≤ q + 64 := Nat.mul_div_le _ _
      have h3 := Nat.mul_le_mul_right k h1
      rw [Nat.add_mul, Nat.mul_comm q k, Nat.mul_assoc] at h3
      omega
    have HBB := bitByBit_any (P := q + 1) (L := (q + 64) / 64) (n := k) (r := r) HA.out (by rw [HV.out]; exact HR.out.is) HPL.out.2 (by omega) (by rw [Nat.add_sub_cancel]; exact HPL.out.1) (by omega) (by omega) hLk hk32
    rw [show ((q + 1 : Nat) : Int) = (q : Int) + 1 by omega] at HBB
    have HBB' := hid HBB
    clear HBB
    go_wp2_with fail
    refine HBB'.out.mono ?_
    rintro e w2 ⟨zs, v, rfl, o1, c1, e1, b1⟩
    have O1 := hid o1
    have B1 := hid b1
    clear HBB' o1 b1
    go_wp2
    go_ret
    exact ⟨zs, v, rfl, O1.out, c1, e1, B1.out⟩
  · obtain ⟨W, hWe⟩ : ∃ W : Nat, (q + 1 - l) / 128 = W := ⟨_, rfl⟩
    have t2 : ((q : Int) + 1 - l) / 128 = (W : Int) := by omega
    have t1 : ((q : Int) + 1 - l).tdiv 128 = (W : Int) := by rw [Int.tdiv_eq_ediv_of_nonneg (by omega)]; exact t2
    have hW1 : 1 ≤ W := by omega
    have hWq : 64 * W ≤ q := by omega
    have z3 : ¬ (W : Int) ≤ 0 := by omega
    obtain ⟨m, hm⟩ : ∃ m, k * W = m := ⟨_, rfl⟩
    have em : (k : Int) * (W : Int) = (m : Int) := by rw [← hm]; simp
    have hm64 : m * 64 ≤ b - 1 := by
      have h1 := Nat.mul_le_mul_left k hWq
      have h3 := HQ.out
      rw [Nat.mul_left_comm, hm] at h1
      omega
    have hm1 : 1 ≤ m := by rw [← hm]; exact Nat.mul_pos (by omega) hW1
    have es : (m : Int) * 64 = ((m * 64 : Nat) : Int) := by omega
    have hks : k * (64 * W) = m * 64 := by rw [Nat.mul_left_comm, hm, Nat.mul_comm]
    have HS := hid (shr_any HA.out (n := m * 64) (by omega))
    obtain ⟨r', hr'⟩ := nroot_ex (k := k) (by omega) (vn xs / 2 ^ (m * 64))
    have HR' := hid hr'
    have hU0 : vn xs / 2 ^ (m * 64) ≠ 0 := by
      have h1 : 2 ^ (m * 64) ≤ 2 ^ (b - 1) := Nat.pow_le_pow_right (by omega) hm64
      have := Nat.div_pos (Nat.le_trans h1 HBH.out.1) (Nat.two_pow_pos _)
      omega
    have hUl : vn xs / 2 ^ (m * 64) < vn xs := Nat.div_lt_self (by omega) (Nat.one_lt_two_pow (by omega))
    have HUP : Hid (r < (r' + 1) * 2 ^ (64 * W)) := by
      have := HR.out.upper (s := 64 * W) (q := r') (by rw [hks]; exact hr')
      exact this
    have HNR : Hid (r' * 2 ^ (64 * W) ≤ r) := HR.out.near (s := 64 * W) (q := r') (by rw [hks]; exact hr')
    have HU0 := hid hU0
    have HUl := hid hUl
    generalize vn xs / 2 ^ (m * 64) = U at *
    have es2 := hid es
    rw [← es] at HS
    clear hr' hU0 hUl hWe hW es hks hm
    go_wp2_with fail
    refine HS.out.mono ?_
    rintro e w2 ⟨us, vu, rfl, ou, cu, eu, lu, b1⟩
    have HRC := hid (HI.out w2 vu us k r' ou.sl h2 hk32 (by rw [eu]; exact HU0.out) (by omega) (by rw [eu]; exact HR'.out) (by rw [eu]; exact HUl.out))
    obtain ⟨ua, uc, rfl⟩ := ou.form
    have B1 := hid b1
    have EU := hid eu
    clear HS ou b1 eu
    go_wp2_with fail
    refine HRC.out.mono ?_
    rintro e w3 ⟨ss, vs, rfl, os, cs, es3, b2⟩
    have B2 := hid (below_step B1.out b2)
    have hr'r : r' ≤ r := by
      have := HNR.out
      have h1 := Nat.mul_le_mul_left r' (Nat.two_pow_pos (64 * W))
      omega
    have lss := canon_bits cs (n := q + 1) es3 (by have := HPL.out.2; omega)
    have SL : Hid (Sl (w3.alloc (.cells #[.int .u64 1] 26)).heap.size (w3.alloc (.cells #[.int .u64 1] 26)) (.slice (some ⟨w3.heap.size, 0, none⟩) 1 1) [1]) := lit_last w3 [1] _ rfl (wf_word (by omega) WF.nil) (by simp) 1 rfl
    have B3 := hid (below_step B2.out ((Below.refl w3.heap.size w3).alloc (Nat.le_refl _) (.cells #[.int .u64 1] 26)))
    have HAD := hid (add_now (os.sl.later (.cells #[.int .u64 1] 26)) SL.out (by omega) (by simp))
    have ES3 := hid es3
    clear HRC os b2 es3 SL hr'r
    go_wp2_with fail
    refine HAD.out.mono ?_
    rintro e w4 ⟨ts, vt, rfl, st, ct, et, lt, b4⟩
    have B4 := hid (below_step B3.out b4)
    have ET : Hid (val ts = ((r' + 1 : Nat) : Int)) := by unfold Hid; rw [et, ES3.out]; simp [val]
    have hts : ts ≠ [] := canon_ne (by rw [ET.out]; omega)
    have ST := hid st
    have HXV := hid (onto_val W ts ET.out)
    have HXC := hid (canon_append (wf_zeros W) ct hts)
    have hlt : (r' + 1) * 2 ^ (64 * W) < 2 ^ (q + 2) := by
      have h1 := HNR.out
      have h3 : 2 ^ (64 * W) ≤ 2 ^ q := Nat.pow_le_pow_right (by omega) hWq
      have h4 := HPL.out.2
      rw [Nat.add_mul, Nat.one_mul]
      have e1 : 2 ^ (q + 1) = 2 * 2 ^ q := by rw [Nat.pow_succ]; omega
      have e2 : 2 ^ (q + 2) = 4 * 2 ^ q := by rw [Nat.pow_succ, Nat.pow_succ]; omega
      omega
    have lX := canon_bits HXC.out HXV.out hlt
    have hXk : (List.replicate W (0 : Int) ++ ts).length * (k - 1) ≤ 8589934592 := by
      have h1 : 64 * ((q + 2 + 63) / 64) ≤ q + 65 := Nat.mul_div_le _ _
      have h3 := Nat.mul_le_mul_right k h1
      have h5 : (List.replicate W (0 : Int) ++ ts).length * (k - 1) ≤ (q + 2 + 63) / 64 * k := Nat.mul_le_mul lX (by omega)
      rw [Nat.add_mul, Nat.mul_comm q k, Nat.mul_assoc] at h3
      omega
    have lT : ts.length ≤ 1073741825 := by simp only [List.length_append] at lX; omega
    have lW : W ≤ 1073741825 := by omega
    have hl30 : (List.replicate W (0 : Int) ++ ts).length ≤ 1073741824 := by omega
    have HXK := hid hXk
    have HL30 := hid hl30
    have ek : ((k - 1 : Nat) : Int) + 1 = (k : Int) := by omega
    have hvx : (r : Int) < val (List.replicate W 0 ++ ts) := by rw [HXV.out]; have := HUP.out; omega
    have HVX := hid hvx
    clear HAD st b4 et hlt lX hXk hl30 hvx
    go_wp2_with (at_make; refine wpList_make_words _ rfl _ _ rfl _ _ W W rfl rfl (by omega) (by omega) (Nat.le_refl _) (by omega) ?_)
    intro w5 hrow hb5 hsz5
    have B5 := hid (below_step B4.out hb5)
    have ST5 := hid (ST.out.now hb5)
    clear hb5 hsz5
    go_wp2_with (at_builtin; refine wpList_append_onto _ rfl (.tmp 44) (.tmp 45) rfl w4.heap.size W _ (List.replicate W 0) ts rfl (wf_zeros W) (by simp) hrow rfl ST5.out hts (by omega) ?_)
    intro vx w6 SX hb6
    have B6 := hid (below_step B5.out hb6.out)
    have HSD := stepDown_any (B0 := w1'.heap.size) (n := k - 1) (r := (r : Int)) (HA.out.now B6.out) ⟨SX.out, fun e => by have := HVX.out; omega⟩ HXC.out (by omega) (by have := HPL.out.1; have := Nat.two_pow_pos q; omega) (by rw [Nat.sub_add_cancel (by omega), HV.out]; exact HR.out.is) (Int.le_of_lt HVX.out) (by omega) HL30.out HXK.out (by omega) B6.out.size
    rw [ek] at HSD
    have HSD' := hid HSD
    clear HSD hrow hb6
    go_wp2_with fail
    refine HSD'.out.mono ?_
    rintro e w7 ⟨zs, v, rfl, o7, c7, e7, b7⟩
    have O7 := hid o7
    have B7 := hid (below_step B6.out b7)
    clear HSD' o7 b7
    go_wp2
    go_ret
    exact ⟨zs, v, rfl, O7.out, c7, e7, B7.out⟩
theorem root_ok : ∀ N, RootOk N
  | 0 => fun _ _ _ _ _ _ _ _ _ _ _ h => absurd h (Nat.not_lt_zero _)
  | N + 1 => fun w va xs k r ha h2 h32 hne lx hr hN => root_step ha h2 h32 hne lx hr fun w va ys k' r' a1 a2 a3 a4 a5 a6 a7 => root_ok N w va ys k' r' a1 a2 a3 a4 a5 a6 (by omega)
theorem root_any {w : World} {va : Value} {xs : List Int} {k r : Nat} (ha : Sl w.heap.size w va xs) (h2 : 2 ≤ k) (hk32 : k < 4294967296) (hne : vn xs ≠ 0) (lx : xs.length ≤ 1073741824) (hr : NRoot r (vn xs) k) : Calls Try.prog 47 #[va, .int .i64 (k : Int)] w (Rooted w.heap.size w (r : Int)) :=
  root_ok (vn xs + 1) w va xs k r ha h2 hk32 hne lx hr (Nat.lt_succ_self _)

/- RootAll -/

def RootedT (w : World) (r : Int) (e : Ending) (w' : World) : Prop := ∃ zs v, e = .returned (.tuple #[v, .int .i64 0]) ∧ Own w.heap.size w' v zs ∧ Canon zs ∧ val zs = r ∧ Below w.heap.size w w'
theorem nroot_one {a k : Nat} (h0 : a ≠ 0) (h : bitLen a ≤ k) : NRoot 1 a k := by
  refine ⟨by rw [Nat.one_pow]; omega, Nat.lt_of_lt_of_le (bitLen_has h0).2 ?_⟩
  exact Nat.pow_le_pow_right (by omega) h
theorem nroot_unique {r s a k : Nat} (h : NRoot r a k) (h' : NRoot s a k) : r = s := Nat.le_antisymm (h'.le h.1) (h.le h'.1)
theorem own_last (w : World) (xs : List Int) (cs : Array Value) (hcs : cs = (ws xs).toArray) (hx : WF xs) (h : xs.length ≤ 35184372088832) (n : Nat) (hn : n = xs.length) : Own w.heap.size (w.alloc (.cells cs 26)) (.slice (some ⟨w.heap.size, 0, none⟩) n n) xs := by
  subst hcs
  subst hn
  exact ⟨hx, .inr ⟨w.heap.size, [], Nat.le_refl _, by simpa using h, by simp, by simpa using Row.new w xs⟩⟩

set_option maxHeartbeats 1600000 in
theorem rootT_any {w : World} {va : Value} {xs : List Int} {k r : Nat} (ha : Sl w.heap.size w va xs) (h1 : 1 ≤ k) (hk : k < 9223372036854775808) (lx : xs.length ≤ 33554432) (hr : NRoot r (vn xs) k) : Calls Try.prog 21 #[va, .int .i64 (k : Int)] w (RootedT w (r : Int)) := by
  have HA := hid ha
  have HR := hid hr
  have HV := hid (val_vn ha.1)
  have HBL := hid (bitLen_any ha)
  have z1 : ¬ (k : Int) < 1 := by omega
  by_cases h0 : vn xs = 0
  · have hb : bitLen (vn xs) = 0 := by rw [h0]; rfl
    rw [hb] at HBL
    have hr0 : r = 0 := by
      have := hr.1
      rw [h0] at this
      rcases Nat.eq_zero_or_pos r with q | q
      · exact q
      · have := Nat.pow_pos (n := k) q; omega
    clear ha hr
    go_enter Try.func21, Try.ntmps21
    go_wp2_with fail
    refine HBL.out.mono ?_
    rintro e w1 ⟨rfl, rfl⟩
    clear HBL
    go_wp2
    go_ret2
    exact ⟨[], _, rfl, ⟨WF.nil, .inl ⟨rfl, rfl⟩⟩, canon_nil, by rw [hr0]; rfl, Below.refl _ _⟩
  · have hbl : bitLen (vn xs) ≤ 64 * xs.length := by
      unfold bitLen
      rw [if_neg h0]
      have := (Nat.log2_lt (n := vn xs) (k := 64 * xs.length) h0).2 (vn_lt ha.1)
      omega
    have hb0 : 0 < bitLen (vn xs) := by unfold bitLen; rw [if_neg h0]; omega
    have HN1 : Hid (bitLen (vn xs) ≤ k → NRoot 1 (vn xs) k) := nroot_one h0
    have HRA : Hid (2 ≤ k → k < 4294967296 → Calls Try.prog 47 #[va, .int .i64 (k : Int)] w (Rooted w.heap.size w (r : Int))) := fun a b => root_any ha a b h0 (by omega) hr
    have HLE := hid (least_own ha)
    generalize bitLen (vn xs) = b at *
    have z2 : ((b : Int) == 0) = false := by rw [beq_eq_false_iff_ne]; omega
    clear ha hr
    by_cases hkb : b ≤ k
    · have z3 : (b : Int) ≤ (k : Int) := by omega
      have e1 := nroot_unique HR.out (HN1.out hkb)
      go_enter Try.func21, Try.ntmps21
      go_wp2_with fail
      refine HBL.out.mono ?_
      rintro e w1 ⟨rfl, rfl⟩
      clear HBL
      go_wp2
      go_ret2
      exact ⟨[1], _, rfl, own_last _ [1] _ rfl canon_one.1 (by simp) 1 rfl, canon_one, by rw [e1]; rfl, (Below.refl _ _).alloc (Nat.le_refl _) _⟩
    · have z3 : ¬ (b : Int) ≤ (k : Int) := by omega
      by_cases hk1 : k = 1
      · subst hk1
        have z4 : ((1 : Int) == 1) = true := rfl
        have er : r = vn xs := by
          have h3 := HR.out.1
          have h4 := HR.out.2
          rw [Nat.pow_one] at h3 h4
          omega
        go_enter Try.func21, Try.ntmps21
        go_wp2_with fail
        refine HBL.out.mono ?_
        rintro e w1 ⟨rfl, rfl⟩
        clear HBL
        go_wp2_with fail
        refine HLE.out.mono ?_
        rintro e w2 ⟨v2, rfl, ho, hb2⟩
        have HO := hid ho
        have HB := hid hb2
        clear ho hb2 HLE
        go_wp2
        go_ret2
        exact ⟨lst xs, v2, rfl, HO.out, canon_lst HA.out.1, by rw [val_lst, HV.out, er], HB.out⟩
      · have z4 : ((k : Int) == 1) = false := by rw [beq_eq_false_iff_ne]; omega
        have HRR := hid (HRA.out (by omega) (by omega))
        go_enter Try.func21, Try.ntmps21
        go_wp2_with fail
        refine HBL.out.mono ?_
        rintro e w1 ⟨rfl, rfl⟩
        clear HBL
        go_wp2_with fail
        refine HRR.out.mono ?_
        rintro e w2 ⟨zs, v, rfl, o1, c1, e1, b1⟩
        have O1 := hid o1
        have B1 := hid b1
        clear HRR o1 b1 HRA
        go_wp2
        go_ret2
        exact ⟨zs, v, rfl, O1.out, c1, e1, B1.out⟩
theorem rootT_bad (v : Value) (w : World) {i : Int} (hi : i < 1) (hl : -9223372036854775808 ≤ i) :
    Calls Try.prog 21 #[v, .int .i64 i] w fun e w' => e = .returned (.tuple #[.slice none 0 0, .int .i64 3]) ∧ w' = w := by
  go_enter Try.func21, Try.ntmps21
  go_wp2
  go_ret2
  exact ⟨rfl, rfl⟩
/-- What Sqrt answers. -/
def Sqrted (w : World) (xs : List Int) (r : Nat) (e : Ending) (w' : World) : Prop := ∃ zs ls v u, e = .returned (.tuple #[v, u]) ∧ Sl w'.heap.size w' v zs ∧ Sl w'.heap.size w' u ls ∧ Canon zs ∧ Canon ls ∧ val zs = (r : Int) ∧ val ls = val xs - val zs * val zs ∧ Below w.heap.size w w'
set_option maxHeartbeats 1600000 in
theorem sqrt_any {w : World} {va : Value} {xs : List Int} {r : Nat} (ha : Sl w.heap.size w va xs) (lx : xs.length ≤ 33554432) (hr : NRoot r (vn xs) 2) : Calls Try.prog 19 #[va] w (Sqrted w xs r) := by
  have HA := hid ha
  have HR := hid hr
  have HV := hid (val_vn ha.1)
  have HRT := hid (rootT_any ha (k := 2) (by omega) (by omega) lx hr)
  clear ha hr
  go_enter Try.func19, Try.ntmps19
  go_wp2_with fail
  refine HRT.out.mono ?_
  rintro e w1 ⟨zs, v, rfl, o1, c1, e1, b1⟩
  have hle : r ≤ vn xs := by
    have := HR.out.1
    rw [Nat.pow_succ, Nat.pow_one] at this
    exact Nat.le_trans (Nat.le_mul_self r) this
  have lz := canon_len_le c1 (canon_lst HA.out.1) (by rw [e1, val_lst, HV.out]; omega)
  rw [length_lst] at lz
  have lw := wid_le xs
  have HSQ := hid (square_any o1.sl (by omega))
  have O1 := hid o1
  have E1 := hid e1
  have B1 := hid b1
  obtain ⟨a1, a2, rfl⟩ := o1.form
  clear HRT o1 e1 b1
  go_wp2_with fail
  refine HSQ.out.mono ?_
  rintro e w2 ⟨qs, vq, rfl, mq, cq, eq2, b2⟩
  have B2 := hid (below_step B1.out b2)
  have hsq : val qs ≤ val xs := by
    have := HR.out.1
    rw [Nat.pow_succ, Nat.pow_one] at this
    rw [eq2, E1.out, HV.out, ← Int.natCast_mul]
    omega
  have HSB := hid (sub_now (HA.out.now B2.out) mq.sl hsq)
  have SZ2 := hid (O1.out.sl.now b2)
  have EQ2 := hid eq2
  clear HSQ mq b2 eq2
  go_wp2_with fail
  refine HSB.out.mono ?_
  rintro e w3 ⟨ls, la, lc, rfl, sl, cl, el, ll, b3⟩
  have B3 := hid (below_step B2.out b3)
  have SZ3 := hid (SZ2.out.now b3)
  have SL3 := hid sl
  have EL := hid el
  clear HSB sl b3 el
  go_wp2
  go_ret2
  exact ⟨zs, ls, _, _, rfl, SZ3.out, SL3.out, c1, cl, E1.out, by rw [EL.out, EQ2.out], B3.out⟩

/- AtMostNo -/

set_option maxHeartbeats 3200000 in
set_option maxRecDepth 100000 in
theorem atMost_no {w : World} {vb va : Value} {xs ys : List Int} {k : Nat} (hb : Sl w.heap.size w vb ys) (ha : Sl w.heap.size w va xs) (hy : 2 ≤ val ys) (hk1 : 1 ≤ k) (hkb : k < 9223372036854775808) (hk : val xs < val ys ^ k) (lx : xs.length ≤ 1073741824) (ly : ys.length ≤ 1073741824) :
    Calls Try.prog 22 #[vb, .int .i64 (k : Int), va] w fun e w' => e = .returned (.bool false) ∧ Below w.heap.size w w' := by
  have L1 := rbitLen_any hb (by omega)
  have HA := hid ha
  have HB := hid hb
  have hvx := val_vn ha.1
  have hvy := val_vn hb.1
  have hml : bitLen (vn xs) ≤ 64 * xs.length := by
    unfold bitLen
    split
    · omega
    · have := (Nat.log2_lt (n := vn xs) (k := 64 * xs.length) (by omega)).2 (vn_lt ha.1)
      omega
  have hn2 : ¬ bitLen (vn ys) < 2 := bitLen_two (by omega)
  have hnl : bitLen (vn ys) ≤ 64 * ys.length := by
    unfold bitLen
    rw [if_neg (by omega)]
    have := (Nat.log2_lt (n := vn ys) (k := 64 * ys.length) (by omega)).2 (vn_lt hb.1)
    omega
  have hm1 : bitLen (vn xs) ≠ 0 → 1 ≤ val xs := fun h => by
    rw [hvx]
    rcases Nat.eq_zero_or_pos (vn xs) with q | q
    · rw [q] at h; exact absurd rfl h
    · omega
  have HM1' := hid hm1
  have HLX := hid (show bitLen (vn xs) = bitLen (vn xs) from rfl)
  obtain ⟨n, hn⟩ : ∃ n, bitLen (vn ys) = n := ⟨_, rfl⟩
  obtain ⟨m, hm⟩ : ∃ m, bitLen (vn xs) = m := ⟨_, rfl⟩
  rw [hn] at L1 hn2 hnl
  rw [hm] at HM1' hml
  have HM := hid hm
  have HK := hid hk
  clear ha hb hn hm hm1 hk hvx hvy HLX
  go_enter Try.func22, Try.ntmps22
  go_wp2_with fail
  refine L1.mono ?_
  rintro e w1 ⟨rfl, b1⟩
  have L2 := hid (rbitLen_any (HA.out.now b1) (by omega))
  rw [HM.out] at L2
  have B1 := hid b1
  clear L1 b1
  have q1 : ¬ (n : Int) ≤ 1 := by omega
  have q3 : ((n : Int) == 0) = false := by rw [beq_eq_false_iff_ne]; omega
  by_cases hkm : m < k
  · have q4 : ((k : Int) == 0) = false := by rw [beq_eq_false_iff_ne]; omega
    have q5 : (m : Int) < (k : Int) := by omega
    go_wp2_with fail
    refine L2.out.mono ?_
    rintro e w2 ⟨rfl, b2⟩
    have B2 := hid (below_step B1.out b2)
    clear L2 b2
    go_wp2
    go_ret
    exact ⟨rfl, B2.out⟩
  · have q4 : ((k : Int) == 0) = false := by rw [beq_eq_false_iff_ne]; omega
    have q5 : ¬ (m : Int) < (k : Int) := by omega
    have hX1 : 1 ≤ val xs := HM1'.out (by omega)
    have HX1 := hid hX1
    clear hX1
    go_wp2_with fail
    refine L2.out.mono ?_
    rintro e w2 ⟨rfl, b2⟩
    have B2 := hid (below_step B1.out b2)
    have HA2 := hid ((HA.out.now B1.out).now b2)
    have HB2 := hid ((HB.out.now B1.out).now b2)
    clear L2 b2 B1 HA HB
    go_wp2_with fail
    go_loopw [10] (fun s10 wx => ∃ L : Nat, s10 = .int .i64 ((2 ^ L : Nat) : Int) ∧ 2 ^ L ≤ k ∧ wx = w2.alloc (.cells #[.int .u64 1] 26)) (fun s10 _ => k - (intOf s10).toNat)
    case atStart => exact ⟨0, rfl, by simp; omega, rfl⟩
    case round =>
      obtain ⟨L, rfl, hL, rfl⟩ := hrel
      obtain ⟨P, hP⟩ : ∃ P, 2 ^ L = P := ⟨_, rfl⟩
      have HP := hid hP
      have hP1 : 1 ≤ P := by rw [← hP]; exact Nat.two_pow_pos L
      rw [hP] at hL
      rw [hP]
      clear hP
      by_cases hlt : P ≤ k / 2
      · have i1 : (P : Int) ≤ (k : Int) / 2 := by omega
        go_wp2_with fail
        go_roundw
        case rel => exact ⟨L + 1, by rw [Nat.pow_succ, HP.out]; go_num, by rw [Nat.pow_succ, HP.out]; omega, by first | rfl | trivial⟩
        case measure => simp [intOf]; omega
      · have i1 : ¬ (P : Int) ≤ (k : Int) / 2 := by omega
        have hkP : k < 2 ^ (L + 1) := by rw [Nat.pow_succ, HP.out]; omega
        have SP : Hid (Sl (w2.alloc (.cells #[.int .u64 1] 26)).heap.size (w2.alloc (.cells #[.int .u64 1] 26)) (.slice (some ⟨w2.heap.size, 0, none⟩) 1 1) [1]) := lit_last w2 [1] _ rfl canon_oneA.1 (by simp) 1 rfl
        have HB0 := hid ((Below.refl w2.heap.size w2).alloc (Nat.le_refl _) (.cells #[.int .u64 1] 26))
        go_wp2_with fail
        go_loopg [9, 10] (L + 1) (fun g s9 s10 wx => ∃ zs : List Int, s10 = .int .i64 ((2 ^ g / 2 : Nat) : Int) ∧ 2 ^ g / 2 ≤ k ∧ Hid (Sl wx.heap.size wx s9 zs) ∧ Canon zs ∧ Hid (val zs = val ys ^ (k / 2 ^ g)) ∧ Hid (val zs ≤ val xs) ∧ Hid (Below w2.heap.size w2 wx))
        case atStart => exact ⟨[1], by rw [two_half, HP.out], by rw [two_half, HP.out]; exact hL, SP, canon_oneA, by unfold Hid; rw [Nat.div_eq_of_lt hkP]; simp [val], by unfold Hid; simpa [val] using HX1.out, HB0⟩
        case round =>
          clear SP HB0
          obtain ⟨zs, rfl, hgk, SZ, hcz, HVZ, HLEZ, BZ⟩ := hrel
          cases gk with
          | zero =>
            exfalso
            have h1 := HVZ.out
            have h2 := HLEZ.out
            have h3 := HK.out
            rw [Nat.pow_zero, Nat.div_one] at h1
            omega
          | succ i =>
            rw [two_half] at hgk
            rw [two_half]
            obtain ⟨Q, hQ⟩ : ∃ Q, 2 ^ i = Q := ⟨_, rfl⟩
            have HPI := hid hQ
            have hQ1 : 1 ≤ Q := by rw [← hQ]; exact Nat.two_pow_pos i
            rw [hQ] at hgk
            rw [hQ]
            clear hQ
            have hlz : zs.length ≤ xs.length := pow_lenA HA2.out.1 hcz HLEZ.out
            have HM1 := hid (rmul_any SZ.out SZ.out (by omega) (by omega))
            obtain ⟨kq, hkq⟩ : ∃ kq, k / Q = kq := ⟨_, rfl⟩
            have ek : (k : Int) / (Q : Int) = (kq : Int) := by rw [← hkq]; simp
            have et : (k : Int).tdiv (Q : Int) = (kq : Int) := by rw [← hkq]; exact (Int.ofNat_tdiv k Q).symm
            have hkq1 : kq ≤ k := by rw [← hkq]; exact Nat.div_le_self _ _
            have r1 : (0 : Int) < (Q : Int) := by omega
            have r2 : ¬ (Q : Int) = 0 := by omega
            have r3 : ((Q : Int) == 0) = false := by rw [beq_eq_false_iff_ne]; omega
            go_wp2_with fail
            refine HM1.out.mono ?_
            rintro e w3 ⟨zs2, v2, rfl, ho2, hc2, hv2, b3⟩
            have HO2 := hid ho2
            have HV2 := hid hv2
            have B3 := hid b3
            have hl2 := mul_lenR hcz.1 hcz.1 hc2 hv2
            clear HM1 ho2 hv2 b3
            by_cases hodd : k / Q % 2 = 1
            · have r4 : ((kq : Int) % 2 == 1) = true := by rw [beq_iff_eq]; rw [hkq] at hodd; omega
              have r5 : (kq : Int) % 2 = 1 := by rw [hkq] at hodd; omega
              have HM2 := hid (rmul_any HO2.out.sl (HB2.out.now (below_step BZ.out B3.out)) (by omega) (by omega))
              go_wp2_with fail
              refine HM2.out.mono ?_
              rintro e w4 ⟨zs3, v3, rfl, ho3, hc3, hv3, b4⟩
              have hval3 : val zs3 = val ys ^ (k / 2 ^ i) := by rw [hv3, HV2.out, HVZ.out, pow_bit (val ys) k i, if_pos (by rw [HPI.out]; exact hodd)]
              have hl3 := mul_lenR hc2.1 HB2.out.1 hc3 hv3
              have B4 := hid (below_step (below_step BZ.out B3.out) b4)
              have HO3 := hid ho3.sl
              have HC := hid (rcmp_any ho3.sl (HA2.out.now B4.out) (by omega) (by omega))
              have HV3 := hid hval3
              clear HM2 ho3 hv3 b4 hval3
              by_cases hle3 : val zs3 ≤ val xs
              · have hcn : ¬ 0 < cmpI (val zs3) (val xs) := by
                  rcases Int.lt_or_eq_of_le hle3 with t | t
                  · rw [cmpI_lt t]; omega
                  · rw [t, cmpI_self]; omega
                generalize cmpI (val zs3) (val xs) = C at *
                have HLE3 := hid hle3
                clear hle3
                go_wp2_with fail
                refine HC.out.mono ?_
                rintro e w5 ⟨rfl, b5⟩
                have B5 := hid (below_step B4.out b5)
                have HO5 := hid (HO3.out.now b5)
                clear HC b5
                go_wp2_with fail
                go_roundg i
                case rel => exact ⟨zs3, by rw [HPI.out]; go_num, by rw [HPI.out]; omega, HO5, hc3, HV3, HLE3, B5⟩
                case measure => omega
              · have hcn : 0 < cmpI (val zs3) (val xs) := by rw [cmpI_gt (by omega)]; omega
                generalize cmpI (val zs3) (val xs) = C at *
                clear hle3
                go_wp2_with fail
                refine HC.out.mono ?_
                rintro e w5 ⟨rfl, b5⟩
                have B5 := hid (below_step B4.out b5)
                clear HC b5
                go_wp2
                go_ret
                exact ⟨rfl, below_step B2.out B5.out⟩
            · have r4 : ((kq : Int) % 2 == 1) = false := by rw [beq_eq_false_iff_ne]; rw [hkq] at hodd; omega
              have hval3 : val zs2 = val ys ^ (k / 2 ^ i) := by rw [HV2.out, HVZ.out, pow_bit (val ys) k i, if_neg (by rw [HPI.out]; exact hodd)]
              have B4 := hid (below_step BZ.out B3.out)
              have HC := hid (rcmp_any HO2.out.sl (HA2.out.now B4.out) (by omega) (by omega))
              have HV3 := hid hval3
              clear hval3
              by_cases hle3 : val zs2 ≤ val xs
              · have hcn : ¬ 0 < cmpI (val zs2) (val xs) := by
                  rcases Int.lt_or_eq_of_le hle3 with t | t
                  · rw [cmpI_lt t]; omega
                  · rw [t, cmpI_self]; omega
                generalize cmpI (val zs2) (val xs) = C at *
                have HLE3 := hid hle3
                clear hle3
                go_wp2_with fail
                refine HC.out.mono ?_
                rintro e w5 ⟨rfl, b5⟩
                have B5 := hid (below_step B4.out b5)
                have HO5 := hid (HO2.out.sl.now b5)
                clear HC b5
                go_wp2_with fail
                go_roundg i
                case rel => exact ⟨zs2, by rw [HPI.out]; go_num, by rw [HPI.out]; omega, HO5, hc2, HV3, HLE3, B5⟩
                case measure => omega
              · have hcn : 0 < cmpI (val zs2) (val xs) := by rw [cmpI_gt (by omega)]; omega
                generalize cmpI (val zs2) (val xs) = C at *
                clear hle3
                go_wp2_with fail
                refine HC.out.mono ?_
                rintro e w5 ⟨rfl, b5⟩
                have B5 := hid (below_step B4.out b5)
                clear HC b5
                go_wp2
                go_ret
                exact ⟨rfl, below_step B2.out B5.out⟩

/- AtMostIs -/

set_option maxHeartbeats 1600000 in
set_option maxRecDepth 100000 in
theorem atMost_small {w : World} {vb va : Value} {xs ys : List Int} {k : Nat} (hb : Sl w.heap.size w vb ys) (ha : Sl w.heap.size w va xs) (hy : val ys < 2) (hk1 : 1 ≤ k) (hkb : k < 9223372036854775808) (lx : xs.length ≤ 1073741824) (ly : ys.length ≤ 1073741824) :
    Calls Try.prog 22 #[vb, .int .i64 (k : Int), va] w fun e w' => e = .returned (.bool (decide (val ys ^ k ≤ val xs))) ∧ Below w.heap.size w w' := by
  have L1 := rbitLen_any hb (by omega)
  have HA := hid ha
  have hvx := val_vn ha.1
  have hvy := val_vn hb.1
  have hn2 : bitLen (vn ys) < 2 := bitLen_less (by omega)
  have x0 := val_nonneg ha.1
  have y0 := val_nonneg hb.1
  have HN0 : Hid (bitLen (vn ys) = 0 ↔ val ys = 0) := by
    unfold Hid
    rw [hvy]
    unfold bitLen
    split <;> omega
  have HM0 : Hid (bitLen (vn xs) = 0 ↔ val xs = 0) := by
    unfold Hid
    rw [hvx]
    unfold bitLen
    split <;> omega
  have HML : Hid (bitLen (vn xs) ≤ 64 * xs.length) := by
    unfold Hid bitLen
    split
    · omega
    · have := (Nat.log2_lt (n := vn xs) (k := 64 * xs.length) (by omega)).2 (vn_lt ha.1)
      omega
  obtain ⟨n, hn⟩ : ∃ n, bitLen (vn ys) = n := ⟨_, rfl⟩
  obtain ⟨m, hm⟩ : ∃ m, bitLen (vn xs) = m := ⟨_, rfl⟩
  rw [hn] at L1 hn2 HN0
  rw [hm] at HM0 HML
  have HM := hid hm
  have hml := HML.out
  have hn0 := HN0.out
  have hm0 := HM0.out
  have q1 : (n : Int) ≤ 1 := by omega
  have q2 : (0 : Int) < (k : Int) := by omega
  have q2n : 0 < k := hk1
  clear ha hb hn hm hvx hvy HML HN0 HM0
  by_cases hz : val ys = 0
  · have e0 : n = 0 := hn0.2 hz
    have q3 : ((n : Int) == 0) = true := by rw [beq_iff_eq]; omega
    have HE0 := hid e0
    clear e0 hn0
    have hd : decide (val ys ^ k ≤ val xs) = true := by rw [decide_eq_true_eq, hz, Int.zero_pow (by omega)]; exact x0
    rw [hd]
    go_enter Try.func22, Try.ntmps22
    go_wp2_with fail
    refine L1.mono ?_
    rintro e w1 ⟨rfl, b1⟩
    have L2 := hid (rbitLen_any (HA.out.now b1) (by omega))
    rw [HM.out] at L2
    have B1 := hid b1
    clear L1 b1
    go_wp2_with fail
    refine L2.out.mono ?_
    rintro e w2 ⟨rfl, b2⟩
    have B2 := hid (below_step B1.out b2)
    clear L2 b2
    go_wp2
    go_ret
    exact ⟨rfl, B2.out⟩
  · have e1 : val ys = 1 := by omega
    have q3 : ((n : Int) == 0) = false := by rw [beq_eq_false_iff_ne]; omega
    have hd : decide (val ys ^ k ≤ val xs) = decide (0 < m) := by
      rw [e1, Int.one_pow]
      by_cases q : val xs = 0
      · have := hm0.2 q
        rw [decide_eq_false (by omega), decide_eq_false (by omega)]
      · rw [decide_eq_true (by omega), decide_eq_true (by omega)]
    rw [hd]
    go_enter Try.func22, Try.ntmps22
    go_wp2_with fail
    refine L1.mono ?_
    rintro e w1 ⟨rfl, b1⟩
    have L2 := hid (rbitLen_any (HA.out.now b1) (by omega))
    rw [HM.out] at L2
    have B1 := hid b1
    clear L1 b1
    go_wp2_with fail
    refine L2.out.mono ?_
    rintro e w2 ⟨rfl, b2⟩
    have B2 := hid (below_step B1.out b2)
    clear L2 b2
    go_wp2
    go_ret
    exact ⟨rfl, B2.out⟩
theorem atMost_is {w : World} {vb va : Value} {xs ys : List Int} {k : Nat} (hb : Sl w.heap.size w vb ys) (ha : Sl w.heap.size w va xs) (hk1 : 1 ≤ k) (hkb : k < 9223372036854775808) (lx : xs.length ≤ 1073741824) (ly : ys.length ≤ 1073741824) :
    Calls Try.prog 22 #[vb, .int .i64 (k : Int), va] w fun e w' => e = .returned (.bool (decide (val ys ^ k ≤ val xs))) ∧ Below w.heap.size w w' := by
  by_cases hy : val ys < 2
  · exact atMost_small hb ha hy hk1 hkb lx ly
  · by_cases h : val ys ^ k ≤ val xs
    · rw [decide_eq_true h]; exact atMost_yes hb ha (by omega) h (by omega) (by omega)
    · rw [decide_eq_false h]; exact atMost_no hb ha (by omega) hk1 hkb (by omega) lx ly

/- RootedLaw -/

theorem sq_two (x : Int) : x ^ 2 = x * x := by rw [Int.pow_succ, Int.pow_succ, Int.pow_zero, Int.one_mul]
theorem root_pow {r a k : Nat} {X Y A : Int} (h : NRoot r a k) (hX : X = (r : Int)) (hY : Y = X + 1) (hA : A = (a : Int)) : decide (X ^ k ≤ A) = true ∧ decide (Y ^ k ≤ A) = false := by
  subst hX hY hA
  exact ⟨decide_eq_true h.is.2.1, decide_eq_false (by have := h.is.2.2; omega)⟩

set_option maxHeartbeats 6400000 in
set_option maxRecDepth 100000 in
theorem divnatRooted_any {w : World} {va : Value} {xs : List Int} {kk : Int} (ha : Sl w.heap.size w va xs) (lx : xs.length ≤ 1048576) (hk : -9223372036854775808 ≤ kk ∧ kk ≤ 9223372036854775807) :
    Calls Try.prog 6 #[va, .int .i64 kk] w fun e w' => e = .returned (.bool true) ∧ Below w.heap.size w w' := by
  have HA0 := hid ha
  have HW := wakes3_any w
  have HV := hid (val_vn ha.1)
  obtain ⟨s, hs⟩ := nroot_ex (k := 2) (by omega) (vn xs)
  have HS2 := hid hs
  clear ha hs
  go_enter Try.func6, Try.ntmps6
  go_wp2_with fail
  refine HW.mono ?_
  rintro e w1 ⟨rfl, b1⟩
  have B1 := hid b1
  have HA1 := hid (HA0.out.now b1)
  have HSQ := hid (sqrt_any HA1.out (by omega) HS2.out)
  clear HW b1
  go_wp2_with fail
  refine HSQ.out.mono ?_
  rintro e w2 ⟨zs, ls, v, u, rfl, sz, sl, cz, cl, ez, el, b2⟩
  have B2 := hid (below_step B1.out b2)
  have HA2 := hid (HA1.out.now b2)
  have hzz : val zs * val zs ≤ val xs := by
    have := HS2.out.is.2.1
    rw [← ez, sq_two, ← HV.out] at this
    exact this
  have hzz2 : val xs < val zs * val zs + 2 * val zs + 1 := by
    have := HS2.out.is.2.2
    rw [← ez, sq_two, ← HV.out, Int.add_mul, Int.mul_add] at this
    omega
  have z0 := val_nonneg cz.1
  have hzx : val zs ≤ val xs := by
    rcases Int.lt_or_eq_of_le z0 with q | q
    · have := Int.mul_le_mul_of_nonneg_left (show (1 : Int) ≤ val zs by omega) z0
      rw [Int.mul_one] at this
      omega
    · rw [← q]; exact val_nonneg HA2.out.1
  have lz := pow_lenA HA2.out.1 cz hzx
  have z00 := Int.mul_nonneg z0 z0
  have ll := pow_lenA HA2.out.1 cl (by rw [el]; omega)
  have SZ := hid sz
  have SL := hid sl
  have HM := hid (rmul_any sz sz (by omega) (by omega))
  obtain ⟨_, a1, c1, rfl, _⟩ := sz
  obtain ⟨_, a2, c2, rfl, _⟩ := sl
  have HEL := hid el
  have HZ2 := hid (show val ls ≤ val zs + val zs by rw [el]; omega)
  have HZX := hid hzx
  clear HSQ b2 B1 HA0 HA1 el hzz hzz2 hzx z00 ez
  go_wp2_with fail
  refine HM.out.mono ?_
  rintro e w3 ⟨qs, vq, rfl, hoq, hcq, hvq, b3⟩
  have B3 := hid b3
  have lq := mul_lenR cz.1 cz.1 hcq hvq
  have HAD := hid (radd_any hoq.sl (SL.out.now b3) (by omega) (by omega))
  have HVQ := hid hvq
  clear HM hoq hvq b3
  go_wp2_with fail
  refine HAD.out.mono ?_
  rintro e w4 ⟨ss, vs, rfl, hos, hcs, hvs, b4⟩
  have B4 := hid (below_step B3.out b4)
  have HVS : Hid (val ss = val xs) := by unfold Hid; rw [hvs, HVQ.out, HEL.out]; omega
  have SS := hid hos.sl
  have HAD2 := hid (radd_any (SZ.out.now B4.out) (SZ.out.now B4.out) (by omega) (by omega))
  clear HAD hos hvs b4 B3
  go_wp2_with fail
  refine HAD2.out.mono ?_
  rintro e w5 ⟨ms, vm, rfl, hom, hcm, hvm, b5⟩
  have B5 := hid (below_step B4.out b5)
  have SS5 := hid (SS.out.now b5)
  have lm : ms.length ≤ xs.length + 1 := by
    refine canon_len hcm ?_
    rw [hvm, show pw (xs.length + 1) = wB * pw xs.length from rfl]
    have h1 := val_lt_pw HA2.out.1
    have h2 := HZX.out
    unfold wB
    omega
  have HC := hid (rcmp_any (SL.out.now B5.out) hom.sl (by omega) (by omega))
  have hc2 : ¬ 0 < cmpI (val ls) (val ms) := by
    have : val ls ≤ val ms := by rw [hvm]; exact HZ2.out
    rcases Int.lt_or_eq_of_le this with t | t
    · rw [cmpI_lt t]; omega
    · rw [t, cmpI_self]; omega
  generalize cmpI (val ls) (val ms) = CC at *
  clear HAD2 hom hvm b5 B4 SS
  go_wp2_with fail
  refine HC.out.mono ?_
  rintro e w6 ⟨rfl, b6⟩
  have B6 := hid (below_step B5.out b6)
  have SS6 := hid (SS5.out.now b6)
  have HL1 := hid (least3_yes (SZ.out.now B6.out) cz)
  have HL2 := hid (least3_yes (SL.out.now B6.out) cl)
  have HLA := hid (rleast_any (HA2.out.now B6.out) (by omega))
  clear HC b6 B5 SS5
  go_wp2_with fail
  refine HL1.out.mono ?_
  rintro e w7 ⟨rfl, rfl⟩
  clear HL1
  go_wp2_with fail
  refine HL2.out.mono ?_
  rintro e w8 ⟨rfl, rfl⟩
  clear HL2
  go_wp2_with fail
  refine HLA.out.mono ?_
  rintro e w9 ⟨ns, vn', rfl, hon, hcn, hvn, b9⟩
  have he : ss = ns := canon_inj hcs hcn (by rw [HVS.out, hvn])
  have B9 := hid (below_step B6.out b9)
  have HSM := hid (same_yes (SS6.out.now b9) hon.sl he)
  clear HLA hon hcn hvn b9 he SS6 B6
  go_wp2_with fail
  refine HSM.out.mono ?_
  rintro e w10 ⟨rfl, b10⟩
  have B10 := hid (below_step B9.out b10)
  have HA10 := hid (HA2.out.now B10.out)
  clear HSM b10 B9 HVS HVQ HEL HZ2 SZ SL hcs hcq hcm cz cl lz ll lq lm
  by_cases hk1 : kk < 1
  · have HB := hid (rootT_bad va w10 hk1 hk.1)
    have y3 : ((3 : Int) == 3) = true := rfl
    have y0 : ((0 : Int) == 0) = true := rfl
    go_wp2_with fail
    refine HB.out.mono ?_
    rintro e w11 ⟨rfl, rfl⟩
    clear HB
    go_wp2
    go_ret
    exact ⟨rfl, below_step B2.out B10.out⟩
  · obtain ⟨k, rfl⟩ : ∃ k : Nat, kk = (k : Int) := ⟨kk.toNat, by omega⟩
    obtain ⟨r, hr⟩ := nroot_ex (k := k) (by omega) (vn xs)
    have HRT := hid (rootT_any HA10.out (by omega) (by omega) (by omega) hr)
    have HR := hid hr
    have y0 : ((0 : Int) != 0) = false := rfl
    clear hr
    go_wp2_with fail
    refine HRT.out.mono ?_
    rintro e w11 ⟨rs, vr, rfl, ho, hc, hv, b11⟩
    have hrx : r ≤ vn xs := by
      have h1 := HR.out.1
      rcases Nat.eq_zero_or_pos r with q | q
      · omega
      · exact Nat.le_trans (by
          have := Nat.pow_le_pow_right q (show 1 ≤ k by omega)
          rw [Nat.pow_one] at this
          exact this) h1
    have lr := pow_lenA HA10.out.1 hc (by rw [hv, HV.out]; omega)
    have B11 := hid (below_step B10.out b11)
    have SR := hid ho.sl
    have HA11 := hid (HA10.out.now b11)
    have HL3 := hid (least3_yes ho.sl hc)
    obtain ⟨ra, rc, rfl⟩ := ho.form
    have y1 : ¬ (xs.length : Int) < (rs.length : Int) := by omega
    have HVR := hid hv
    obtain ⟨_, xa, xc, hvae, _⟩ := HA11.out
    subst hvae
    clear HRT ho hv b11
    go_wp2_with fail
    refine HL3.out.mono ?_
    rintro e w12 ⟨rfl, rfl⟩
    have HM1 := hid (atMost_is SR.out HA11.out (k := k) (by omega) (by omega) (by omega) (by omega))
    clear HL3
    have HRP : Hid (∀ Y : Int, Y = val rs + 1 → decide (val rs ^ k ≤ val xs) = true ∧ decide (Y ^ k ≤ val xs) = false) := fun Y hY => root_pow HR.out HVR.out hY HV.out
    rw [(HRP.out _ rfl).1] at HM1
    go_wp2_with fail
    refine HM1.out.mono ?_
    rintro e w13 ⟨rfl, b13⟩
    have SL13 : Hid (Sl (w13.alloc (.cells #[.int .u64 1] 26)).heap.size (w13.alloc (.cells #[.int .u64 1] 26)) (.slice (some ⟨w13.heap.size, 0, none⟩) 1 1) [1]) := lit_last w13 [1] _ rfl canon_oneA.1 (by simp) 1 rfl
    have B14 := hid (below_step b13 ((Below.refl w13.heap.size w13).alloc (Nat.le_refl _) (.cells #[.int .u64 1] 26)))
    have HAD3 := hid (radd_any (SR.out.now B14.out) SL13.out (by omega) (by simp))
    clear HM1 b13 SL13
    go_wp2_with fail
    refine HAD3.out.mono ?_
    rintro e w15 ⟨ts, vt, rfl, hot, hct, hvt, b15⟩
    have B15 := hid (below_step B14.out b15)
    have lt : ts.length ≤ rs.length + 1 := by
      refine canon_len hct ?_
      rw [hvt, show pw (rs.length + 1) = wB * pw rs.length from rfl]
      have h1 := val_lt_pw hc.1
      have h2 : val [(1 : Int)] = 1 := rfl
      have h3 := pw_pos rs.length
      rw [h2]
      unfold wB
      omega
    have HM2 := hid (atMost_is hot.sl (HA11.out.now B15.out) (k := k) (by omega) (by omega) (by omega) (by omega))
    rw [(HRP.out _ (by rw [hvt]; rfl)).2] at HM2
    clear HAD3 hot hvt b15 B14
    go_wp2_with fail
    refine HM2.out.mono ?_
    rintro e w16 ⟨rfl, b16⟩
    have B16 := hid (below_step B15.out b16)
    clear HM2 b16
    go_wp2
    go_ret
    exact ⟨rfl, below_step (below_step B2.out B11.out) B16.out⟩
end Go.Proofs.Ytfkdjmmhbamkhaa
