/-
  RAdd: the reference's Add and Sub.
-/
import Derived.Test.YtnbjlpeclaieeaaJoin
namespace Go.Proofs.Ytnbjlpeclaieeaa
open Go.RowKit

theorem dig_get {D : List Int} (h : DF D) (k : Nat) : 0 ≤ D.getD k 0 ∧ D.getD k 0 ≤ 65535 := by
  by_cases hk : k < D.length
  · have hx := h.get hk
    unfold IsD dwB at hx
    rw [show D.getD k 0 = D[k] by simp [hk]]; omega
  · rw [show D.getD k 0 = 0 by simp [show D.length ≤ k by omega]]; omega
theorem dtake_next (D : List Int) (k : Nat) : dval (D.take (k + 1)) = dval (D.take k) + D.getD k 0 * dpw k := by
  by_cases hk : k < D.length
  · rw [dval_take_succ D k hk, show D.getD k 0 = D[k] by simp [hk]]
  · rw [show D.getD k 0 = 0 by simp [show D.length ≤ k by omega], List.take_of_length_le (by omega), List.take_of_length_le (by omega)]; simp
theorem zeros_d (n : Nat) : DF (List.replicate n 0) ∧ dval (List.replicate n 0) = 0 := by
  have h : DF (List.replicate n 0) := fun x hx => by rw [List.eq_of_mem_replicate hx]; unfold IsD dwB; omega
  refine ⟨h, ?_⟩
  induction n with
  | zero => rfl
  | succ n ih => rw [List.replicate_succ, dval, ih (fun x hx => h x (by rw [List.replicate_succ]; simp [hx]))]; simp
theorem Own.from {B B' : Nat} {w : World} {v : Value} {zs : List Int} (h : Own B w v zs) (hB : B' ≤ B) : Own B' w v zs := by
  refine ⟨h.1, ?_⟩
  rcases h.2 with h1 | ⟨g, r', h1, h2, h3, h4⟩
  · exact .inl h1
  · exact .inr ⟨g, r', Nat.le_trans hB h1, h2, h3, h4⟩
theorem ints_of_df {D : List Int} (h : DF D) : ∀ p ∈ D, -9223372036854775808 ≤ p ∧ p ≤ 9223372036854775807 := fun p hp => by have := h p hp; unfold IsD dwB at this; omega

set_option maxHeartbeats 3200000 in
theorem radd_any {w : World} {v u : Value} {xs ys : List Int} (h : Sl w.heap.size w v xs) (h' : Sl w.heap.size w u ys) (hlen : xs.length ≤ 1099511627776) (hlen' : ys.length ≤ 1099511627776) :
    Calls Try.prog 38 #[v, u] w (Told w (val xs + val ys)) := by
  go_enter Try.func38, Try.ntmps38
  go_wp2_with fail
  refine (split_any h (by omega)).mono ?_
  rintro e w1 ⟨X, rx, rfl, hs, hcx, hvx, hlx, hb⟩
  have h1 := h'.now hb
  have HVX := hid hvx
  clear hvx h h'
  go_wp2_with fail
  refine (split_any h1 (by omega)).mono ?_
  rintro e w2 ⟨Y, ry, rfl, hsy, hcy, hvy, hly, hb2⟩
  have hsx := hs.now hb2
  have HVY := hid hvy
  have hb12 := hid (below_step hb hb2)
  clear hvy h1 hs hb hb2
  have hX := hsx
  have hY := hsy
  obtain ⟨-, ax, capx, rfl, -, -, -⟩ := hsx
  obtain ⟨-, ay, capy, rfl, -, -, -⟩ := hsy
  have HX := hid hX
  have HY := hid hY
  have HCX := hid hcx.1
  have HCY := hid hcy.1
  clear hX hY hcx hcy
  obtain ⟨n, hn⟩ : ∃ n, n = max X.length Y.length := ⟨_, rfl⟩
  have hn1 : X.length ≤ n := by omega
  have hn2 : Y.length ≤ n := by omega
  have hn3 : n ≤ 4398046511104 := by omega
  have HZ := hid (zeros_d (n + 1))
  by_cases hlt : (X.length : Int) < (Y.length : Int)
  focus
    obtain rfl : n = Y.length := by omega
    clear hn
    go_wp2_with (at_make; refine wpList_make_ints _ rfl _ _ rfl _ _ (Y.length + 1) (Y.length + 1) rfl rfl (by omega) (by omega) (Nat.le_refl _) (by omega) ?_)
    generalize hN : Y.length = n at *
    have HNN : Hid (X.length ≤ n ∧ Y.length ≤ n) := ⟨by omega, by omega⟩
    clear hN
  rotate_left
  focus
    obtain rfl : n = X.length := by omega
    clear hn
    go_wp2_with (at_make; refine wpList_make_ints _ rfl _ _ rfl _ _ (X.length + 1) (X.length + 1) rfl rfl (by omega) (by omega) (Nat.le_refl _) (by omega) ?_)
    generalize hN : X.length = n at *
    have HNN : Hid (X.length ≤ n ∧ Y.length ≤ n) := ⟨by omega, by omega⟩
    clear hN
  rotate_left
  all_goals
    intro w3 hrow hb3 hsz3
    have hhs : w2.heap.size < w3.heap.size := by have := hsz3.out; omega
    have HV0 : Hid (dval (List.replicate (n + 1) 0) + dpw 0 * 0 = dval (X.take 0) + dval (Y.take 0)) := by unfold Hid; rw [HZ.out.2]; simp [dval]
    clear hsz3
    go_wp2_with fail
    go_loopw [9, 10] (fun c i wr => ∃ (k : Nat) (zs : List Int) (cc : Int), k ≤ n ∧ i = .int .i64 k ∧ c = .int .i64 cc ∧ 0 ≤ cc ∧ cc ≤ 1 ∧ Hid (zs.length = n + 1) ∧ Hid (DF zs) ∧ Hid (∀ j (h : j < zs.length), k ≤ j → zs[j] = 0) ∧
        Hid (dval zs + dpw k * cc = dval (X.take k) + dval (Y.take k)) ∧ RowI wr w2.heap.size (wi zs) ∧ Below w2.heap.size w2 wr ∧ w2.heap.size < wr.heap.size) (fun _ i _ => n - (intOf i).toNat)
    case atStart => exact ⟨0, _, 0, Nat.zero_le _, rfl, rfl, by omega, by omega, (by unfold Hid; simp), HZ.out.1, (fun j h _ => by simp), HV0, hrow, hb3, hhs⟩
    case round =>
      clear HV0 hrow hb3 hhs HZ
      obtain ⟨k, zs, cc, hk, rfl, rfl, hc0, hc1, HL, HD, HZ, HV, hr, hb, hhs⟩ := hrel
      by_cases hkn : k < n
      · have hk1 : k < zs.length := by have := HL.out; omega
        have hz0 : zs[k] = 0 := HZ.out k hk1 (Nat.le_refl _)
        have hx := dig_get HCX.out k
        have hy := dig_get HCY.out k
        have HTX := hid (dtake_next X k)
        have HTY := hid (dtake_next Y k)
        have HAX := hid (at_any (HX.out.below hb) k)
        have HAY := hid (at_any (HY.out.below hb) k)
        have cf : wr.frozen? ⟨w2.heap.size, k, none⟩ = false := hr.frozen _
        have c1 : wr.cell? ⟨w2.heap.size, k, none⟩ = some (.int .i64 zs[k]) := RowI.num (r := []) (by simpa using hr) hk1
        generalize X.getD k 0 = x at *
        generalize Y.getD k 0 = y at *
        obtain ⟨hx0, hx1⟩ := hx
        obtain ⟨hy0, hy1⟩ := hy
        have HR := RowI.setNum (r := []) (by simpa using hr) hk1 ((x + y + cc) % 65536)
        have HB := hb.setCell (p := ⟨w2.heap.size, k, none⟩) (Nat.le_refl _) (.int .i64 ((x + y + cc) % 65536))
        have HV' := hid (dcarry_step (xs := []) (ysT := dval (X.take k) + dval (Y.take k)) (ysT' := dval (X.take (k + 1)) + dval (Y.take (k + 1))) (p := dpw (k + 1)) (y := x + y) (s := (x + y + cc) % 65536) (d := (x + y + cc) / 65536) (c := cc) hk1 (by rw [HV.out]; simp [dval]) (by rw [HTX.out, HTY.out, Int.add_mul]; omega) (by rw [hz0]; unfold dwB; omega) rfl)
        have HD' : Hid (DF (zs.set k ((x + y + cc) % 65536))) := HD.out.set k (by unfold IsD dwB; omega)
        have HZ' : Hid (∀ j (h : j < (zs.set k ((x + y + cc) % 65536)).length), k + 1 ≤ j → (zs.set k ((x + y + cc) % 65536))[j] = 0) := fun j h hj => by
          rw [List.getElem_set_ne (by omega)]; exact HZ.out j (by simpa using h) (by omega)
        have HL' : Hid ((zs.set k ((x + y + cc) % 65536)).length = n + 1) := by unfold Hid; rw [List.length_set]; exact HL.out
        have hhs' : w2.heap.size < (wr.setCell ⟨w2.heap.size, k, none⟩ (.int .i64 ((x + y + cc) % 65536))).heap.size := by simpa using hhs
        clear hr hb HL HD HZ HV hhs
        generalize zs[k] = z at *
        go_wp2_with fail
        refine HAX.out.mono ?_
        rintro e w4 ⟨rfl, rfl⟩
        go_wp2_with fail
        refine HAY.out.mono ?_
        rintro e w5 ⟨rfl, rfl⟩
        clear HAX HAY
        go_wp2
        go_roundw
        case rel => exact ⟨k + 1, _, _, by omega, by go_num, rfl, by omega, by omega, HL', HD', HZ', (by unfold Hid; simpa [dval] using HV'.out), (by simpa using HR), HB, hhs'⟩
        case measure => simp [intOf]; omega
      · obtain rfl : k = n := by omega
        have hk1 : k < zs.length := by have := HL.out; omega
        have hz0 : zs[k] = 0 := HZ.out k hk1 (Nat.le_refl _)
        have cf : wr.frozen? ⟨w2.heap.size, k, none⟩ = false := hr.frozen _
        have c1 : wr.cell? ⟨w2.heap.size, k, none⟩ = some (.int .i64 zs[k]) := RowI.num (r := []) (by simpa using hr) hk1
        have HR := RowI.setNum (r := []) (by simpa using hr) hk1 cc
        have HB := hb.setCell (p := ⟨w2.heap.size, k, none⟩) (Nat.le_refl _) (.int .i64 cc)
        have HD' : Hid (DF (zs.set k cc)) := HD.out.set k (by unfold IsD dwB; omega)
        have HV' : Hid (dval (zs.set k cc) = val xs + val ys) := by
          unfold Hid
          rw [dval_set zs k cc hk1, hz0, ← HVX.out, ← HVY.out]
          have := HV.out
          rw [List.take_of_length_le HNN.out.1, List.take_of_length_le HNN.out.2] at this
          rw [Int.sub_zero, Int.mul_comm]; exact this
        have HL' : Hid ((zs.set k cc).length = k + 1) := by unfold Hid; rw [List.length_set]; exact HL.out
        have hhs' : w2.heap.size < (wr.setCell ⟨w2.heap.size, k, none⟩ (.int .i64 cc)).heap.size := by simpa using hhs
        clear hr hb HL HD HZ HV hhs
        generalize zs.set k cc = Z at *
        generalize zs[k] = z at *
        have hR : RowI (wr.setCell ⟨w2.heap.size, k, none⟩ (.int .i64 cc)) w2.heap.size (wi Z) := by simpa using HR
        have hsz := RowI.sl (r := []) (by simpa using hR) (ints_of_df HD'.out) (cap := k + 1) (by rw [HL'.out]; exact Nat.le_refl _) (by omega) hhs'
        rw [HL'.out] at hsz
        have HJ := hid (join_any hsz HD'.out)
        have HBB := hid (below_step hb12.out HB)
        clear hsz hR HR HB
        go_wp2_with fail
        refine HJ.out.mono ?_
        rintro e w4 ⟨qs, q, rfl, ho, hcz, hvz, hb5⟩
        have HVZ := hid hvz
        clear hvz
        go_wp2
        go_ret
        exact ⟨qs, q, rfl, ho.from HBB.out.size, hcz, by rw [HVZ.out, HV'.out], below_step HBB.out hb5⟩
end Go.Proofs.Ytnbjlpeclaieeaa
