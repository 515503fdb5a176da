/-
  QSubToNow: Sub, Now, joined.
-/
import Derived.Test.YtbalcjjeakdjkaaQMadeToBits
import Derived.Test.YtbalcjjeakdjkaaQLitsToCmp

/- Sub -/
namespace Go.Proofs.Ytbalcjjeakdjkaa
open Go.RowKit

theorem cmpI_neg {a b : Int} (h : a < b) : cmpI a b < 0 := by rw [cmpI_lt h]; omega
theorem cmpI_nonneg {a b : Int} (h : b ≤ a) : ¬ cmpI a b < 0 := by
  rcases Int.lt_or_eq_of_le h with q | q
  · rw [cmpI_gt q]; omega
  · rw [q, cmpI_self]; omega

set_option maxHeartbeats 800000 in
theorem sub_no {w : World} {v u : Value} {xs ys : List Int} (h : Sl w.heap.size w v xs) (h' : Sl w.heap.size w u ys) (hlt : val xs < val ys) :
    Calls Try.prog 84 #[v, u] w fun e w' => e = .returned (.tuple #[.slice none 0 0, .int .i64 3]) ∧ ∃ n, w' = w.drewN n := by
  have HC := cmp_any h h'
  have hn := cmpI_neg hlt
  generalize cmpI (val xs) (val ys) = C at *
  clear h h' hlt
  go_enter Try.func84, Try.ntmps84
  go_wp2_with fail
  refine HC.mono ?_
  rintro e w1 ⟨rfl, n, rfl⟩
  clear HC
  go_wp2
  go_ret2
  exact ⟨rfl, n, rfl⟩

/-- What Sub answers where there is something to take off. -/
def Taken (w : World) (s : Int) (k : Nat) (e : Ending) (w' : World) : Prop :=
  ∃ zs cap r, e = .returned (.tuple #[.slice (some ⟨w.heap.size, 0, none⟩) zs.length cap, .int .i64 0]) ∧ Canon zs ∧ val zs = s ∧ zs.length ≤ k ∧ cap = zs.length + r.length ∧ cap ≤ 35184372088832 ∧
    Row w' w.heap.size (ws zs ++ r) ∧ Below w.heap.size w w' ∧ w.heap.size < w'.heap.size

set_option maxHeartbeats 800000 in
theorem sub_yes {w : World} {v u : Value} {xs ys : List Int} (h : Sl w.heap.size w v xs) (h' : Sl w.heap.size w u ys) (hge : val ys ≤ val xs) :
    Calls Try.prog 84 #[v, u] w (Taken w (val xs - val ys) (wid xs)) := by
  have hs := h
  have hs' := h'
  obtain ⟨hw, a, cap, rfl, hlc, hcm, hm⟩ := h
  obtain ⟨hw', a', cap', rfl, hlc', hcm', hm'⟩ := h'
  have HC := cmp_any hs hs'
  have hn := cmpI_nonneg hge
  generalize cmpI (val xs) (val ys) = C at *
  have l1 := wid_le xs
  have l2 := wid_le ys
  have HWW : Hid (wid ys ≤ wid xs) := by
    unfold Hid
    by_cases q : wid xs < wid ys
    · have := val_wid_lt hw hw' q; omega
    · omega
  have HL1 : Hid ((lst xs).length = wid xs) := length_lst xs
  have HL2 : Hid ((lst ys).length = wid ys) := length_lst ys
  have HC1 := hid (canon_lst hw)
  have HC2 := hid (canon_lst hw')
  have HV1 := hid (val_lst xs)
  have HV2 := hid (val_lst ys)
  have HS1 := hid hs
  have HS2 := hid hs'
  have hsrc' := Sl.source (n := wid ys) hm'
  change lst ys = [] ∨ ∃ b off, a' = some ⟨b, off, none⟩ ∧ b < w.heap.size ∧ ∀ j (h : j < (lst ys).length), w.cell? ⟨b, off + j, none⟩ = some (.int .u64 (lst ys)[j]) at hsrc'
  have HSR := hid hsrc'
  have HGE := hid hge
  clear hm hm' hw hw' hs hs' hsrc' hge
  go_enter Try.func84, Try.ntmps84
  go_wp2_with fail
  refine HC.mono ?_
  rintro e w1 ⟨rfl, n, rfl⟩
  clear HC
  go_wp2_with fail
  refine (least_any (w := w.drewN n) (HS1.out.drewN n)).mono ?_
  rintro e w2 ⟨rfl, hrow, hb2, hsz2⟩
  change Row w2 w.heap.size _ at hrow
  change Below w.heap.size _ w2 at hb2
  change w.heap.size < w2.heap.size at hsz2
  have hb02 : Below w.heap.size w w2 := (below_drewN (Below.refl _ _) n).trans hb2
  go_wp2_with fail
  have HW2 := width_any (HS2.out.below hb02 (Nat.le_refl _))
  refine HW2.mono ?_
  rintro e w3 ⟨rfl, rfl⟩
  clear HW2
  have hsl := Sl.sourceB HSR.out hb02 (Nat.le_refl _)
  have hsl2 : Sl w.heap.size w3 (.slice a' (wid ys) cap') (lst ys) := ⟨HC2.out.1, _, cap', by rw [HL2.out], by rw [HL2.out]; omega, by rw [HL2.out]; omega, hsl⟩
  have hT := takeFrom_any (r := []) (cap := wid xs) HC1.out.1 (by simpa using hrow) (by rw [HL1.out]; omega) hsl2 (by rw [HL1.out, HL2.out]; exact HWW.out) (by rw [HV1.out, HV2.out]; exact HGE.out)
  rw [HL1.out] at hT
  have HT := hid hT
  clear hT hsl hsl2
  have HB := hid hb02
  clear hb02 hb2 hrow
  go_wp2_with fail
  refine HT.out.mono ?_
  rintro e w4 ⟨zs, rfl, hzl, hwz, hv, hr4, hb4⟩
  have hb04 := hid (HB.out.trans hb4)
  have hhs4 : w.heap.size < w4.heap.size := Nat.lt_of_lt_of_le hsz2 hb4.size
  have HV4 := hid hv
  have HZL := hid hzl
  clear hv hzl hb4 HB HT hsz2
  go_wp2_with fail
  have hsz := hr4.sl hwz (cap := wid xs) (by rw [HZL.out]; exact Nat.le_refl _) (by omega) hhs4
  rw [HZL.out] at hsz
  have HW4 := hid (width_any hsz)
  clear hsz
  refine HW4.out.mono ?_
  rintro e w5 ⟨rfl, rfl⟩
  clear HW4
  have l5 := wid_le zs
  have l6 : wid zs ≤ wid xs := by have := HZL.out; omega
  go_wp2
  go_ret2
  refine ⟨lst zs, wid xs, ws (zs.drop (wid zs)), by rw [length_lst]; rfl, canon_lst hwz, ?_, ?_, ?_, by omega, ?_, hb04.out, hhs4⟩
  · rw [val_lst, HV4.out, HV1.out, HV2.out]
  · rw [length_lst]; exact l6
  · rw [length_lst, length_ws, List.length_drop, HZL.out]; omega
  · have e : ws (lst zs) ++ ws (zs.drop (wid zs)) = ws zs ++ [] := by
      unfold lst ws
      rw [← List.map_append, List.take_append_drop, List.append_nil]
    rw [e]; exact hr4
end Go.Proofs.Ytbalcjjeakdjkaa

/- Now -/
namespace Go.Proofs.Ytbalcjjeakdjkaa
open Go.RowKit

theorem below_step {w0 w w' : World} (h : Below w0.heap.size w0 w) (k : Below w.heap.size w w') : Below w0.heap.size w0 w' := h.trans (k.mono h.size)

theorem add_now {w : World} {v u : Value} {xs ys : List Int} (h : Sl w.heap.size w v xs) (h' : Sl w.heap.size w u ys) (hl : xs.length < 35184372088832) (hl' : ys.length < 35184372088832) :
    Calls Try.prog 82 #[v, u] w fun e w' => ∃ zs r, e = .returned r ∧ Sl w'.heap.size w' r zs ∧ Canon zs ∧ val zs = val xs + val ys ∧ (zs.length ≤ xs.length + 1 ∨ zs.length ≤ ys.length + 1) ∧ Below w.heap.size w w' :=
  (add_any h h' hl hl').mono fun e w' hadd => by
    obtain ⟨zs, r, h1, h2, h3, h4, h5, h6⟩ := added_sl hadd
    exact ⟨zs, r, h1, h2, h3, h4, by have := wid_le xs; have := wid_le ys; omega, h6⟩
theorem least_now {w : World} {v : Value} {xs : List Int} (h : Sl w.heap.size w v xs) :
    Calls Try.prog 63 #[v] w fun e w' => ∃ r, e = .returned r ∧ Sl w'.heap.size w' r (lst xs) ∧ Below w.heap.size w w' :=
  (least_any h).mono fun e w' ⟨h1, h2, h3, h4⟩ => by
    have hx := h.1
    obtain ⟨_, a, cap, _, h6, h7, _⟩ := h
    have := wid_le xs
    have hs := Row.sl (r := []) (xs := lst xs) (by simpa using h2) (canon_lst hx).1 (cap := wid xs) (by rw [length_lst]; exact Nat.le_refl _) (by omega) h4
    rw [length_lst] at hs
    exact ⟨_, h1, hs, h3⟩
theorem same_now {w : World} {v u : Value} {xs ys : List Int} (h : Sl w.heap.size w v xs) (h' : Sl w.heap.size w u ys) :
    Calls Try.prog 72 #[v, u] w fun e w' => e = .returned (.bool (same xs ys)) ∧ Below w.heap.size w w' :=
  (same_any h h').mono fun e w' ⟨h1, n, h2⟩ => ⟨h1, by subst h2; exact below_drewN (Below.refl _ _) n⟩
theorem same_yes {w : World} {v u : Value} {xs ys : List Int} (h : Sl w.heap.size w v xs) (h' : Sl w.heap.size w u ys) (he : xs = ys) :
    Calls Try.prog 72 #[v, u] w fun e w' => e = .returned (.bool true) ∧ Below w.heap.size w w' := by
  have := same_now h h'
  subst he
  rwa [same_self] at this
theorem cmp_now {w : World} {v u : Value} {xs ys : List Int} (h : Sl w.heap.size w v xs) (h' : Sl w.heap.size w u ys) :
    Calls Try.prog 90 #[v, u] w fun e w' => e = .returned (.int .i64 (cmpI (val xs) (val ys))) ∧ Below w.heap.size w w' :=
  (cmp_any h h').mono fun e w' ⟨h1, n, h2⟩ => ⟨h1, by subst h2; exact below_drewN (Below.refl _ _) n⟩
theorem sub_now {w : World} {v u : Value} {xs ys : List Int} (h : Sl w.heap.size w v xs) (h' : Sl w.heap.size w u ys) (hge : val ys ≤ val xs) :
    Calls Try.prog 84 #[v, u] w fun e w' => ∃ zs a cap, e = .returned (.tuple #[.slice a zs.length cap, .int .i64 0]) ∧ Sl w'.heap.size w' (.slice a zs.length cap) zs ∧ Canon zs ∧ val zs = val xs - val ys ∧ zs.length ≤ xs.length ∧ Below w.heap.size w w' :=
  (sub_yes h h' hge).mono fun e w' ht => by
    obtain ⟨zs, cap, r, h1, h2, h3, h4, h5, h6, h7, h8, h9⟩ := ht
    exact ⟨zs, _, cap, h1, h7.sl h2.1 (by omega) h6 h9, h2, h3, by have := wid_le xs; omega, h8⟩
theorem sub_not {w : World} {v u : Value} {xs ys : List Int} (h : Sl w.heap.size w v xs) (h' : Sl w.heap.size w u ys) (hlt : val xs < val ys) :
    Calls Try.prog 84 #[v, u] w fun e w' => e = .returned (.tuple #[.slice none 0 0, .int .i64 3]) ∧ Below w.heap.size w w' :=
  (sub_no h h' hlt).mono fun e w' ⟨h1, n, h2⟩ => ⟨h1, by subst h2; exact below_drewN (Below.refl _ _) n⟩
theorem Sl.nil (w : World) : Sl w.heap.size w (.slice Option.none 0 0) [] := Sl.nilAt w
end Go.Proofs.Ytbalcjjeakdjkaa
