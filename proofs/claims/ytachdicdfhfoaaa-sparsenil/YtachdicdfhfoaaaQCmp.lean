/-
  Cmp: the contract of Cmp.
-/
import Derived.Test.YtachdicdfhfoaaaQBaseToOpen
namespace Go.Proofs.Ytachdicdfhfoaaa
open Go.RowKit

theorem cmp_widths {xs ys : List Int} (hx : WF xs) (hy : WF ys) (h : wid xs ≠ wid ys) : cmpI (val xs) (val ys) = cmpI (wid xs) (wid ys) := by
  rcases Nat.lt_or_gt_of_ne h with q | q
  · rw [cmpI_lt (val_wid_lt hx hy q), cmpI_lt (by omega)]
  · rw [cmpI_gt (val_wid_lt hy hx q), cmpI_gt (by omega)]
theorem lst_get {xs : List Int} {j : Nat} (h : j < wid xs) : (lst xs)[j]'(by rw [length_lst]; exact h) = xs[j]'(by have := wid_le xs; omega) := by simp [lst]
theorem cmp_end {xs ys : List Int} {n : Nat} (hn : wid xs = n) (hn' : wid ys = n)
    (he : ∀ j (h1 : j < xs.length) (h2 : j < ys.length), j < n → xs[j] = ys[j]) : cmpI (val xs) (val ys) = 0 := by
  have e : lst xs = lst ys := by
    refine List.ext_getElem (by rw [length_lst, length_lst]; omega) (fun j h1 h2 => ?_)
    rw [length_lst] at h1 h2
    rw [lst_get h1, lst_get h2]
    exact he j _ _ (by omega)
  rw [← val_lst xs, ← val_lst ys, e, cmpI_self]
theorem cmp_here {xs ys : List Int} {n j : Nat} (hx : WF xs) (hy : WF ys) (hn : wid xs = n) (hn' : wid ys = n) (hj : j < n)
    (he : ∀ i (h1 : i < xs.length) (h2 : i < ys.length), j < i → i < n → xs[i] = ys[i]) (h1 : j < xs.length) (h2 : j < ys.length) (hne : xs[j] ≠ ys[j]) : cmpI (val xs) (val ys) = cmpI xs[j] ys[j] := by
  have l1 := length_lst xs
  have l2 := length_lst ys
  have g1 : (lst xs)[j]'(by omega) = xs[j] := lst_get (by omega)
  have g2 : (lst ys)[j]'(by omega) = ys[j] := lst_get (by omega)
  rw [← val_lst xs, ← val_lst ys, ← g1, ← g2]
  refine cmp_at (xs := lst xs) (ys := lst ys) (hx.take _) (hy.take _) (by omega) (by omega) ?_ (by rw [g1, g2]; exact hne)
  refine List.ext_getElem (by simp [length_lst]; omega) (fun i h3 h4 => ?_)
  simp only [List.getElem_drop]
  simp only [List.length_drop] at h3 h4
  rw [lst_get (by omega), lst_get (by omega)]
  exact he _ _ _ (by omega) (by omega)

set_option maxHeartbeats 800000 in
theorem cmp_any {B : Nat} {w : World} {v u : Value} {xs ys : List Int} (h : Sl B w v xs) (h' : Sl B w u ys) :
    Calls Try.prog 95 #[v, u] w fun e w' => e = .returned (.int .i64 (cmpI (val xs) (val ys))) ∧ ∃ n, w' = w.drewN n := by
  have hs := h
  have hs' := h'
  obtain ⟨hw, a, cap, rfl, hlc, hcm, hm⟩ := h
  obtain ⟨hw', a', cap', rfl, hlc', hcm', hm'⟩ := h'
  have HW1 := width_any hs
  have HW2 := width_any hs'
  have l1 := wid_le xs
  have l2 := wid_le ys
  by_cases hne : wid xs = wid ys
  · have HE : Hid ((∀ j (h1 : j < xs.length) (h2 : j < ys.length), j < wid xs → xs[j] = ys[j]) → cmpI (val xs) (val ys) = 0) := cmp_end rfl hne.symm
    have HH : Hid (∀ j, j < wid xs → (∀ i (h1 : i < xs.length) (h2 : i < ys.length), j < i → i < wid xs → xs[i] = ys[i]) → ∀ (h1 : j < xs.length) (h2 : j < ys.length), xs[j] ≠ ys[j] → cmpI (val xs) (val ys) = cmpI xs[j] ys[j]) :=
      fun j hj he h1 h2 hq => cmp_here hw hw' rfl hne.symm hj he h1 h2 hq
    rw [← hne] at HW2 l2
    generalize cmpI (val xs) (val ys) = C at *
    generalize wid xs = n at *
    clear hne hw hw'
    have hnn : ((n : Int) != (n : Int)) = false := by simp
    go_enter Try.func95, Try.ntmps95
    go_wp2_with fail
    refine HW1.mono ?_
    rintro e w1 ⟨rfl, rfl⟩
    go_wp2_with fail
    refine HW2.mono ?_
    rintro e w1 ⟨rfl, rfl⟩
    clear HW1 HW2 hs hs'
    go_wp2_with fail
    go_loopw [22] (fun i wr => ∃ k : Nat, k ≤ n ∧ i = .int .i64 k ∧ (∃ q, wr = w1.drewN q) ∧ ∀ j (h1 : j < xs.length) (h2 : j < ys.length), n - k ≤ j → j < n → xs[j] = ys[j]) (fun i _ => n - (intOf i).toNat)
    case atStart => exact ⟨0, Nat.zero_le _, rfl, ⟨0, rfl⟩, fun j h1 h2 h h' => by omega⟩
    case round =>
      obtain ⟨k, hk, rfl, hq, he⟩ := hrel
      have hcw : ∀ a, wr.cell? a = w1.cell? a := by obtain ⟨q, rfl⟩ := hq; intro a; rfl
      have HQ : Hid (∃ q, wr = w1.drewN q) := hq
      clear hq
      have HR : Hid (∀ j (h1 : j < xs.length) (h2 : j < ys.length), n - k ≤ j → j < n → xs[j] = ys[j]) := he
      clear he
      by_cases hlt : k < n
      · obtain ⟨j, rfl⟩ : ∃ j, n = k + j + 1 := ⟨n - k - 1, by omega⟩
        have hj1 : j < xs.length := by omega
        have hj2 : j < ys.length := by omega
        rcases hm with e | ⟨b, off, rfl, hb, hc⟩
        · subst e; simp at hj1
        rcases hm' with e | ⟨b', off', rfl, hb', hc'⟩
        · subst e; simp at hj2
        have c1 : wr.cell? ⟨b, off + j, none⟩ = some (.int .u64 xs[j]) := by rw [hcw]; exact hc j hj1
        have c2 : wr.cell? ⟨b', off' + j, none⟩ = some (.int .u64 ys[j]) := by rw [hcw]; exact hc' j hj2
        clear hcw
        obtain ⟨x, hx⟩ : ∃ x, x = xs[j] := ⟨_, rfl⟩
        obtain ⟨y, hy⟩ : ∃ y, y = ys[j] := ⟨_, rfl⟩
        rw [← hx] at c1
        rw [← hy] at c2
        have HX : Hid (x = xs[j]) := hx
        have HY : Hid (y = ys[j]) := hy
        clear hx hy hc hc'
        have hwr1 : IntKind.i64.wrap ((k : Int) + (j : Int)) = (k : Int) + (j : Int) := wrap_is (by omega) (by omega)
        have hwr2 : IntKind.i64.wrap (j : Int) = (j : Int) := wrap_is (by omega) (by omega)
        have hwr3 : (k : Int) + (j : Int) - (k : Int) = (j : Int) := by omega
        by_cases hxy : x = y
        · have ht : (cmpI x y != 0) = false := by rw [hxy, cmpI_self]; rfl
          have HXY : Hid (x = y) := hxy
          clear hxy
          go_wp2_with fail
          go_quiet ((go_at_call 112; exact Calls.quiet_of_same (order_any _ _ _)))
          go_wp2
          go_roundw
          case rel =>
            refine ⟨k + 1, by omega, by go_num, (by obtain ⟨q, hq⟩ := HQ.out; exact ⟨q + nq, by rw [hq, World.drewN_drewN]⟩), fun i h1 h2 h3 h4 => ?_⟩
            by_cases e : i = j
            · subst e; rw [← HX.out, ← HY.out]; exact HXY.out
            · exact HR.out i h1 h2 (by omega) (by omega)
          case measure => simp [intOf]; omega
        · have ht : (cmpI x y != 0) = true := by rw [bne_iff_ne]; exact fun e => hxy (cmpI_zero e)
          go_wp2_with fail
          go_quiet ((go_at_call 112; exact Calls.quiet_of_same (order_any _ _ _)))
          go_wp2
          go_ret
          refine ⟨?_, by obtain ⟨q, hq⟩ := HQ.out; exact ⟨q + nq, by rw [hq, World.drewN_drewN]⟩⟩
          have := HH.out j (by omega) (fun i h1 h2 h3 h4 => HR.out i h1 h2 (by omega) (by omega)) hj1 hj2 (by rw [← HX.out, ← HY.out]; exact hxy)
          rw [this, ← HX.out, ← HY.out]
          rfl
      · clear hcw
        go_wp2_with fail
        go_ret
        refine ⟨?_, HQ.out⟩
        rw [HE.out (fun j h1 h2 h3 => HR.out j h1 h2 (by omega) (by omega))]
        rfl
  · have HC : Hid (cmpI (val xs) (val ys) = cmpI (wid xs) (wid ys)) := cmp_widths hw hw' hne
    generalize cmpI (val xs) (val ys) = C at *
    generalize wid xs = m at *
    generalize wid ys = n at *
    have hnn : ((m : Int) != (n : Int)) = true := by rw [bne_iff_ne]; omega
    clear hm hm' hw hw'
    go_enter Try.func95, Try.ntmps95
    go_wp2_with fail
    refine HW1.mono ?_
    rintro e w1 ⟨rfl, rfl⟩
    go_wp2_with fail
    refine HW2.mono ?_
    rintro e w1 ⟨rfl, rfl⟩
    clear HW1 HW2 hs hs'
    go_wp2_with fail
    refine (order_any _ _ _).mono ?_
    rintro e w1 ⟨rfl, rfl⟩
    go_wp2
    go_ret
    refine ⟨?_, 0, rfl⟩
    rw [HC.out]
    rfl
end Go.Proofs.Ytachdicdfhfoaaa
