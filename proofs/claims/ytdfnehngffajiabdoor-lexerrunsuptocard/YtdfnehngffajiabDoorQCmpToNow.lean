/-
  QCmpToNow: Cmp, Sub, Now, joined.
-/
import Derived.Test.YtdfnehngffajiabDoorQBaseToSt25
import Derived.Test.YtdfnehngffajiabDoorQCarryToMade
import Derived.Test.YtdfnehngffajiabDoorQLitsToTakeFrom

/- Cmp -/
namespace Go.Proofs.YtdfnehngffajiabDoor
open Go.RowKit

theorem cmp_widths {xs ys : List Int} (hx : WF xs) (hy : WF ys) (h : wid xs ≠ wid ys) : cmpI (val xs) (val ys) = cmpI (wid xs) (wid ys) := by
  rcases Nat.lt_or_gt_of_ne h with q | q
  · rw [cmpI_lt (val_wid_lt hx hy q), cmpI_lt (by omega)]
  · rw [cmpI_gt (val_wid_lt hy hx q), cmpI_gt (by omega)]
theorem lst_get {xs : List Int} {j : Nat} (h : j < wid xs) : (lst xs)[j]'(by rw [length_lst]; exact h) = xs[j]'(by have := wid_le xs; omega) := by simp [lst]
theorem cmp_end {xs ys : List Int} {n : Nat} (hn : wid xs = n) (hn' : wid ys = n)
    (he : ∀ j (h1 : j < xs.length) (h2 : j < ys.length), j < n → xs[j] = ys[j]) : cmpI (val xs) (val ys) = 0 := by
  have e : lst xs = lst ys := by
    refine List.ext_getElem (by rw [length_lst, length_lst]; omega) (fun j h1 h2 => ?_)
    rw [length_lst] at h1 h2
    rw [lst_get h1, lst_get h2]
    exact he j _ _ (by omega)
  rw [← val_lst xs, ← val_lst ys, e, cmpI_self]
theorem cmp_here {xs ys : List Int} {n j : Nat} (hx : WF xs) (hy : WF ys) (hn : wid xs = n) (hn' : wid ys = n) (hj : j < n)
    (he : ∀ i (h1 : i < xs.length) (h2 : i < ys.length), j < i → i < n → xs[i] = ys[i]) (h1 : j < xs.length) (h2 : j < ys.length) (hne : xs[j] ≠ ys[j]) : cmpI (val xs) (val ys) = cmpI xs[j] ys[j] := by
  have l1 := length_lst xs
  have l2 := length_lst ys
  have g1 : (lst xs)[j]'(by omega) = xs[j] := lst_get (by omega)
  have g2 : (lst ys)[j]'(by omega) = ys[j] := lst_get (by omega)
  rw [← val_lst xs, ← val_lst ys, ← g1, ← g2]
  refine cmp_at (xs := lst xs) (ys := lst ys) (hx.take _) (hy.take _) (by omega) (by omega) ?_ (by rw [g1, g2]; exact hne)
  refine List.ext_getElem (by simp [length_lst]; omega) (fun i h3 h4 => ?_)
  simp only [List.getElem_drop]
  simp only [List.length_drop] at h3 h4
  rw [lst_get (by omega), lst_get (by omega)]
  exact he _ _ _ (by omega) (by omega)

set_option maxHeartbeats 800000 in
theorem cmp_any {B : Nat} {w : World} {v u : Value} {xs ys : List Int} (h : Sl B w v xs) (h' : Sl B w u ys) :
    Calls Tryd.prog 66 #[v, u] w fun e w' => e = .returned (.int .i64 (cmpI (val xs) (val ys))) ∧ ∃ n, w' = w.drewN n := by
  have hs := h
  have hs' := h'
  obtain ⟨hw, a, cap, rfl, hlc, hcm, hm⟩ := h
  obtain ⟨hw', a', cap', rfl, hlc', hcm', hm'⟩ := h'
  have HW1 := width_any hs
  have HW2 := width_any hs'
  have l1 := wid_le xs
  have l2 := wid_le ys
  by_cases hne : wid xs = wid ys
  · have HE : Hid ((∀ j (h1 : j < xs.length) (h2 : j < ys.length), j < wid xs → xs[j] = ys[j]) → cmpI (val xs) (val ys) = 0) := cmp_end rfl hne.symm
    have HH : Hid (∀ j, j < wid xs → (∀ i (h1 : i < xs.length) (h2 : i < ys.length), j < i → i < wid xs → xs[i] = ys[i]) → ∀ (h1 : j < xs.length) (h2 : j < ys.length), xs[j] ≠ ys[j] → cmpI (val xs) (val ys) = cmpI xs[j] ys[j]) :=
      fun j hj he h1 h2 hq => cmp_here hw hw' rfl hne.symm hj he h1 h2 hq
    rw [← hne] at HW2 l2
    generalize cmpI (val xs) (val ys) = C at *
    generalize wid xs = n at *
    clear hne hw hw'
    have hnn : ((n : Int) != (n : Int)) = false := by simp
    go_enter Tryd.func66, Tryd.ntmps66
    go_wp2_with fail
    refine HW1.mono ?_
    rintro e w1 ⟨rfl, rfl⟩
    go_wp2_with fail
    refine HW2.mono ?_
    rintro e w1 ⟨rfl, rfl⟩
    clear HW1 HW2 hs hs'
    go_wp2_with fail
    go_loopw [22] (fun i wr => ∃ k : Nat, k ≤ n ∧ i = .int .i64 k ∧ (∃ q, wr = w1.drewN q) ∧ ∀ j (h1 : j < xs.length) (h2 : j < ys.length), n - k ≤ j → j < n → xs[j] = ys[j]) (fun i _ => n - (intOf i).toNat)
    case atStart => exact ⟨0, Nat.zero_le _, rfl, ⟨0, rfl⟩, fun j h1 h2 h h' => by omega⟩
    case round =>
      obtain ⟨k, hk, rfl, hq, he⟩ := hrel
      have hcw : ∀ a, wr.cell? a = w1.cell? a := by obtain ⟨q, rfl⟩ := hq; intro a; rfl
      have HQ : Hid (∃ q, wr = w1.drewN q) := hq
      clear hq
      have HR : Hid (∀ j (h1 : j < xs.length) (h2 : j < ys.length), n - k ≤ j → j < n → xs[j] = ys[j]) := he
      clear he
      by_cases hlt : k < n
      · obtain ⟨j, rfl⟩ : ∃ j, n = k + j + 1 := ⟨n - k - 1, by omega⟩
        have hj1 : j < xs.length := by omega
        have hj2 : j < ys.length := by omega
        rcases hm with e | ⟨b, off, rfl, hb, hc⟩
        · subst e; simp at hj1
        rcases hm' with e | ⟨b', off', rfl, hb', hc'⟩
        · subst e; simp at hj2
        have c1 : wr.cell? ⟨b, off + j, none⟩ = some (.int .u64 xs[j]) := by rw [hcw]; exact hc j hj1
        have c2 : wr.cell? ⟨b', off' + j, none⟩ = some (.int .u64 ys[j]) := by rw [hcw]; exact hc' j hj2
        clear hcw
        obtain ⟨x, hx⟩ : ∃ x, x = xs[j] := ⟨_, rfl⟩
        obtain ⟨y, hy⟩ : ∃ y, y = ys[j] := ⟨_, rfl⟩
        rw [← hx] at c1
        rw [← hy] at c2
        have HX : Hid (x = xs[j]) := hx
        have HY : Hid (y = ys[j]) := hy
        clear hx hy hc hc'
        have hwr1 : IntKind.i64.wrap ((k : Int) + (j : Int)) = (k : Int) + (j : Int) := wrap_is (by omega) (by omega)
        have hwr2 : IntKind.i64.wrap (j : Int) = (j : Int) := wrap_is (by omega) (by omega)
        have hwr3 : (k : Int) + (j : Int) - (k : Int) = (j : Int) := by omega
        by_cases hxy : x = y
        · have ht : (cmpI x y != 0) = false := by rw [hxy, cmpI_self]; rfl
          have HXY : Hid (x = y) := hxy
          clear hxy
          go_wp2_with fail
          go_quiet ((go_at_call 69; exact Calls.quiet_of_same (order_any _ _ _)))
          go_wp2
          go_roundw
          case rel =>
            refine ⟨k + 1, by omega, by go_num, (by obtain ⟨q, hq⟩ := HQ.out; exact ⟨q + nq, by rw [hq, World.drewN_drewN]⟩), fun i h1 h2 h3 h4 => ?_⟩
            by_cases e : i = j
            · subst e; rw [← HX.out, ← HY.out]; exact HXY.out
            · exact HR.out i h1 h2 (by omega) (by omega)
          case measure => simp [intOf]; omega
        · have ht : (cmpI x y != 0) = true := by rw [bne_iff_ne]; exact fun e => hxy (cmpI_zero e)
          go_wp2_with fail
          go_quiet ((go_at_call 69; exact Calls.quiet_of_same (order_any _ _ _)))
          go_wp2
          go_ret
          refine ⟨?_, by obtain ⟨q, hq⟩ := HQ.out; exact ⟨q + nq, by rw [hq, World.drewN_drewN]⟩⟩
          have := HH.out j (by omega) (fun i h1 h2 h3 h4 => HR.out i h1 h2 (by omega) (by omega)) hj1 hj2 (by rw [← HX.out, ← HY.out]; exact hxy)
          rw [this, ← HX.out, ← HY.out]
          rfl
      · clear hcw
        go_wp2_with fail
        go_ret
        refine ⟨?_, HQ.out⟩
        rw [HE.out (fun j h1 h2 h3 => HR.out j h1 h2 (by omega) (by omega))]
        rfl
  · have HC : Hid (cmpI (val xs) (val ys) = cmpI (wid xs) (wid ys)) := cmp_widths hw hw' hne
    generalize cmpI (val xs) (val ys) = C at *
    generalize wid xs = m at *
    generalize wid ys = n at *
    have hnn : ((m : Int) != (n : Int)) = true := by rw [bne_iff_ne]; omega
    clear hm hm' hw hw'
    go_enter Tryd.func66, Tryd.ntmps66
    go_wp2_with fail
    refine HW1.mono ?_
    rintro e w1 ⟨rfl, rfl⟩
    go_wp2_with fail
    refine HW2.mono ?_
    rintro e w1 ⟨rfl, rfl⟩
    clear HW1 HW2 hs hs'
    go_wp2_with fail
    refine (order_any _ _ _).mono ?_
    rintro e w1 ⟨rfl, rfl⟩
    go_wp2
    go_ret
    refine ⟨?_, 0, rfl⟩
    rw [HC.out]
    rfl
end Go.Proofs.YtdfnehngffajiabDoor

/- Sub -/
namespace Go.Proofs.YtdfnehngffajiabDoor
open Go.RowKit

theorem cmpI_neg {a b : Int} (h : a < b) : cmpI a b < 0 := by rw [cmpI_lt h]; omega
theorem cmpI_nonneg {a b : Int} (h : b ≤ a) : ¬ cmpI a b < 0 := by
  rcases Int.lt_or_eq_of_le h with q | q
  · rw [cmpI_gt q]; omega
  · rw [q, cmpI_self]; omega

set_option maxHeartbeats 800000 in
theorem sub_no {w : World} {v u : Value} {xs ys : List Int} (h : Sl w.heap.size w v xs) (h' : Sl w.heap.size w u ys) (hlt : val xs < val ys) :
    Calls Tryd.prog 62 #[v, u] w fun e w' => e = .returned (.tuple #[.slice none 0 0, .int .i64 3]) ∧ ∃ n, w' = w.drewN n := by
  have HC := cmp_any h h'
  have hn := cmpI_neg hlt
  generalize cmpI (val xs) (val ys) = C at *
  clear h h' hlt
  go_enter Tryd.func62, Tryd.ntmps62
  go_wp2_with fail
  refine HC.mono ?_
  rintro e w1 ⟨rfl, n, rfl⟩
  clear HC
  go_wp2
  go_ret2
  exact ⟨rfl, n, rfl⟩

/-- What Sub answers where there is something to take off. -/
def Taken (w : World) (s : Int) (k : Nat) (e : Ending) (w' : World) : Prop :=
  ∃ zs cap r, e = .returned (.tuple #[.slice (some ⟨w.heap.size, 0, none⟩) zs.length cap, .int .i64 0]) ∧ Canon zs ∧ val zs = s ∧ zs.length ≤ k ∧ cap = zs.length + r.length ∧ cap ≤ 35184372088832 ∧
    Row w' w.heap.size (ws zs ++ r) ∧ Below w.heap.size w w' ∧ w.heap.size < w'.heap.size

set_option maxHeartbeats 800000 in
theorem sub_yes {w : World} {v u : Value} {xs ys : List Int} (h : Sl w.heap.size w v xs) (h' : Sl w.heap.size w u ys) (hge : val ys ≤ val xs) :
    Calls Tryd.prog 62 #[v, u] w (Taken w (val xs - val ys) (wid xs)) := by
  have hs := h
  have hs' := h'
  obtain ⟨hw, a, cap, rfl, hlc, hcm, hm⟩ := h
  obtain ⟨hw', a', cap', rfl, hlc', hcm', hm'⟩ := h'
  have HC := cmp_any hs hs'
  have hn := cmpI_nonneg hge
  generalize cmpI (val xs) (val ys) = C at *
  have l1 := wid_le xs
  have l2 := wid_le ys
  have HWW : Hid (wid ys ≤ wid xs) := by
    unfold Hid
    by_cases q : wid xs < wid ys
    · have := val_wid_lt hw hw' q; omega
    · omega
  have HL1 : Hid ((lst xs).length = wid xs) := length_lst xs
  have HL2 : Hid ((lst ys).length = wid ys) := length_lst ys
  have HC1 := hid (canon_lst hw)
  have HC2 := hid (canon_lst hw')
  have HV1 := hid (val_lst xs)
  have HV2 := hid (val_lst ys)
  have HS1 := hid hs
  have HS2 := hid hs'
  have hsrc' := Sl.source (n := wid ys) hm'
  change lst ys = [] ∨ ∃ b off, a' = some ⟨b, off, none⟩ ∧ b < w.heap.size ∧ ∀ j (h : j < (lst ys).length), w.cell? ⟨b, off + j, none⟩ = some (.int .u64 (lst ys)[j]) at hsrc'
  have HSR := hid hsrc'
  have HGE := hid hge
  clear hm hm' hw hw' hs hs' hsrc' hge
  go_enter Tryd.func62, Tryd.ntmps62
  go_wp2_with fail
  refine HC.mono ?_
  rintro e w1 ⟨rfl, n, rfl⟩
  clear HC
  go_wp2_with fail
  refine (least_any (w := w.drewN n) (HS1.out.drewN n)).mono ?_
  rintro e w2 ⟨rfl, hrow, hb2, hsz2⟩
  change Row w2 w.heap.size _ at hrow
  change Below w.heap.size _ w2 at hb2
  change w.heap.size < w2.heap.size at hsz2
  have hb02 : Below w.heap.size w w2 := (below_drewN (Below.refl _ _) n).trans hb2
  go_wp2_with fail
  have HW2 := width_any (HS2.out.below hb02 (Nat.le_refl _))
  refine HW2.mono ?_
  rintro e w3 ⟨rfl, rfl⟩
  clear HW2
  have hsl := Sl.sourceB HSR.out hb02 (Nat.le_refl _)
  have hsl2 : Sl w.heap.size w3 (.slice a' (wid ys) cap') (lst ys) := ⟨HC2.out.1, _, cap', by rw [HL2.out], by rw [HL2.out]; omega, by rw [HL2.out]; omega, hsl⟩
  have hT := takeFrom_any (r := []) (cap := wid xs) HC1.out.1 (by simpa using hrow) (by rw [HL1.out]; omega) hsl2 (by rw [HL1.out, HL2.out]; exact HWW.out) (by rw [HV1.out, HV2.out]; exact HGE.out)
  rw [HL1.out] at hT
  have HT := hid hT
  clear hT hsl hsl2
  have HB := hid hb02
  clear hb02 hb2 hrow
  go_wp2_with fail
  refine HT.out.mono ?_
  rintro e w4 ⟨zs, rfl, hzl, hwz, hv, hr4, hb4⟩
  have hb04 := hid (HB.out.trans hb4)
  have hhs4 : w.heap.size < w4.heap.size := Nat.lt_of_lt_of_le hsz2 hb4.size
  have HV4 := hid hv
  have HZL := hid hzl
  clear hv hzl hb4 HB HT hsz2
  go_wp2_with fail
  have hsz := hr4.sl hwz (cap := wid xs) (by rw [HZL.out]; exact Nat.le_refl _) (by omega) hhs4
  rw [HZL.out] at hsz
  have HW4 := hid (width_any hsz)
  clear hsz
  refine HW4.out.mono ?_
  rintro e w5 ⟨rfl, rfl⟩
  clear HW4
  have l5 := wid_le zs
  have l6 : wid zs ≤ wid xs := by have := HZL.out; omega
  go_wp2
  go_ret2
  refine ⟨lst zs, wid xs, ws (zs.drop (wid zs)), by rw [length_lst]; rfl, canon_lst hwz, ?_, ?_, ?_, by omega, ?_, hb04.out, hhs4⟩
  · rw [val_lst, HV4.out, HV1.out, HV2.out]
  · rw [length_lst]; exact l6
  · rw [length_lst, length_ws, List.length_drop, HZL.out]; omega
  · have e : ws (lst zs) ++ ws (zs.drop (wid zs)) = ws zs ++ [] := by
      unfold lst ws
      rw [← List.map_append, List.take_append_drop, List.append_nil]
    rw [e]; exact hr4
end Go.Proofs.YtdfnehngffajiabDoor

/- Now -/
namespace Go.Proofs.YtdfnehngffajiabDoor
open Go.RowKit

theorem below_step {w0 w w' : World} (h : Below w0.heap.size w0 w) (k : Below w.heap.size w w') : Below w0.heap.size w0 w' := h.trans (k.mono h.size)

theorem add_now {w : World} {v u : Value} {xs ys : List Int} (h : Sl w.heap.size w v xs) (h' : Sl w.heap.size w u ys) (hl : xs.length < 35184372088832) (hl' : ys.length < 35184372088832) :
    Calls Tryd.prog 51 #[v, u] w fun e w' => ∃ zs r, e = .returned r ∧ Sl w'.heap.size w' r zs ∧ Canon zs ∧ val zs = val xs + val ys ∧ (zs.length ≤ xs.length + 1 ∨ zs.length ≤ ys.length + 1) ∧ Below w.heap.size w w' :=
  (add_any h h' hl hl').mono fun e w' hadd => by
    obtain ⟨zs, r, h1, h2, h3, h4, h5, h6⟩ := added_sl hadd
    exact ⟨zs, r, h1, h2, h3, h4, by have := wid_le xs; have := wid_le ys; omega, h6⟩
theorem least_now {w : World} {v : Value} {xs : List Int} (h : Sl w.heap.size w v xs) :
    Calls Tryd.prog 67 #[v] w fun e w' => ∃ r, e = .returned r ∧ Sl w'.heap.size w' r (lst xs) ∧ Below w.heap.size w w' :=
  (least_any h).mono fun e w' ⟨h1, h2, h3, h4⟩ => by
    have hx := h.1
    obtain ⟨_, a, cap, _, h6, h7, _⟩ := h
    have := wid_le xs
    have hs := Row.sl (r := []) (xs := lst xs) (by simpa using h2) (canon_lst hx).1 (cap := wid xs) (by rw [length_lst]; exact Nat.le_refl _) (by omega) h4
    rw [length_lst] at hs
    exact ⟨_, h1, hs, h3⟩
theorem cmp_now {w : World} {v u : Value} {xs ys : List Int} (h : Sl w.heap.size w v xs) (h' : Sl w.heap.size w u ys) :
    Calls Tryd.prog 66 #[v, u] w fun e w' => e = .returned (.int .i64 (cmpI (val xs) (val ys))) ∧ Below w.heap.size w w' :=
  (cmp_any h h').mono fun e w' ⟨h1, n, h2⟩ => ⟨h1, by subst h2; exact below_drewN (Below.refl _ _) n⟩
theorem sub_now {w : World} {v u : Value} {xs ys : List Int} (h : Sl w.heap.size w v xs) (h' : Sl w.heap.size w u ys) (hge : val ys ≤ val xs) :
    Calls Tryd.prog 62 #[v, u] w fun e w' => ∃ zs a cap, e = .returned (.tuple #[.slice a zs.length cap, .int .i64 0]) ∧ Sl w'.heap.size w' (.slice a zs.length cap) zs ∧ Canon zs ∧ val zs = val xs - val ys ∧ zs.length ≤ xs.length ∧ Below w.heap.size w w' :=
  (sub_yes h h' hge).mono fun e w' ht => by
    obtain ⟨zs, cap, r, h1, h2, h3, h4, h5, h6, h7, h8, h9⟩ := ht
    exact ⟨zs, _, cap, h1, h7.sl h2.1 (by omega) h6 h9, h2, h3, by have := wid_le xs; omega, h8⟩
theorem sub_not {w : World} {v u : Value} {xs ys : List Int} (h : Sl w.heap.size w v xs) (h' : Sl w.heap.size w u ys) (hlt : val xs < val ys) :
    Calls Tryd.prog 62 #[v, u] w fun e w' => e = .returned (.tuple #[.slice none 0 0, .int .i64 3]) ∧ Below w.heap.size w w' :=
  (sub_no h h' hlt).mono fun e w' ⟨h1, n, h2⟩ => ⟨h1, by subst h2; exact below_drewN (Below.refl _ _) n⟩
theorem Sl.nil (w : World) : Sl w.heap.size w (.slice Option.none 0 0) [] := Sl.nilAt w
end Go.Proofs.YtdfnehngffajiabDoor
