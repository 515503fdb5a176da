/-
  Add: append into the spare word; the contract of Add.
-/
import Derived.Test.YtdfnehngffajiabDoorQCarryToMade
import Derived.Test.YtdfnehngffajiabDoorQAddTo
namespace Go.Proofs.YtdfnehngffajiabDoor
open Go.RowKit

theorem wpList_append_word (w : World) {ops : Array Oper} {rest : List Oper} {o : Oper} {a : Act} {Q : Exit → Act → World → Prop}
    (hg : o.guard = none) (s x : Operand) (hop : o.op = Op.call { callee := Callee.builtin Builtin.append, args := #[s, x], argTypes := #[34, 34] })
    (g n : Nat) (zs : List Int) (z c : Int) (hrow : Row w g (ws zs ++ [.int .u64 z])) (hn : zs.length = n) (hmx : n + 1 ≤ 35184372088832) (hs : a.eval s = .slice (some ⟨g, 0, none⟩) n (n + 1))
    (ad : Addr) (hx : a.eval x = .slice (some ad) 1 1) (hc : w.cell? ad = some (.int .u64 c))
    (hK : ∀ w', Row w' g (ws (zs ++ [c])) → Below g w w' → wpList Tryd.prog ops Q rest (a.put o.dst (.slice (some ⟨g, 0, none⟩) (n + 1) (n + 1))) w') :
    wpList Tryd.prog ops Q (o :: rest) a w := by
  obtain ⟨i, hi, hz, hsz, hb⟩ := info_parts Tryd.infoW
  subst hn
  have hown : w.ownsRow 0 78 1 (.slice (some ⟨g, 0, none⟩) zs.length (zs.length + 1)) zs.length (ws zs) := by
    refine ⟨by simp [length_ws], .inr ⟨g, zs.length + 1, _, rfl, Nat.zero_le _, hrow, by omega, by unfold maxLen; omega, by simp [length_ws], ?_⟩⟩
    simp only [Nat.mul_one]
    rw [List.take_append_of_le_length (by simp [length_ws])]
    rw [List.take_of_length_le (by simp [length_ws])]
  refine wpList_append_fits w hg s x 34 hop 0 78 i 1 Tryd.underlying34 hi hsz g zs.length (zs.length + 1) (ws zs) hs hown ad 1 1 [.int .u64 c] hx rfl ?_ ?_ (Nat.le_refl _) ?_
  · intro j u hj
    match j, hj with
    | 0, hj => simp at hj; subst hj; simpa [Addr.add] using hc
  · intro u hu; simp at hu; subst hu; rfl
  · intro w' ho hgr
    refine hK w' ?_ ?_
    · obtain ⟨_, h | ⟨g', cap', cur, h1, _, h3, _, _, h6, h7⟩⟩ := ho
      · cases h.1
      · simp only [Value.slice.injEq, Option.some.injEq, Addr.mk.injEq, and_true, true_and] at h1
        obtain ⟨rfl, rfl⟩ := h1
        have e : cur = (ws (zs ++ [c])).toArray := by
          rw [List.take_of_length_le (by simpa using Nat.le_of_eq h6)] at h7
          rw [← Array.toArray_toList (xs := cur), h7]
          simp [ws]
        unfold Row
        rw [← e]
        exact h3
    · exact (Below.refl _ _).grown hgr (Nat.le_of_lt hrow.lt) (fun k hk => by cases hk; exact Nat.le_refl _)

/-- What Add answers: a row of its own that holds the sum in least form. -/
def Added (w : World) (s : Int) (k : Nat) (e : Ending) (w' : World) : Prop :=
  ∃ zs cap r, e = .returned (.slice (some ⟨w.heap.size, 0, none⟩) zs.length cap) ∧ Canon zs ∧ val zs = s ∧ zs.length ≤ k ∧ cap = zs.length + r.length ∧ cap ≤ 35184372088832 ∧
    Row w' w.heap.size (ws zs ++ r) ∧ Below w.heap.size w w' ∧ w.heap.size < w'.heap.size

theorem added_plain {w w' : World} {L zs : List Int} {s t c : Int} {k m : Nat} {z : Value} (hL : Canon L) (hm : L.length = m) (hz : zs.length = m) (hw : WF zs) (hv : val zs + pw m * c = s) (hs : s = val L + t) (ht : 0 ≤ t) (hc : c = 0) (hk : m + 1 ≤ k) (hmx : m + 1 ≤ 35184372088832)
    (hrow : Row w' w.heap.size (ws zs ++ [z])) (hb : Below w.heap.size w w') (hsz : w.heap.size < w'.heap.size) : Added w s k (.returned (.slice (some ⟨w.heap.size, 0, none⟩) m (m + 1))) w' := by
  subst hc
  rw [Int.mul_zero, Int.add_zero] at hv
  subst hz
  exact ⟨zs, zs.length + 1, [z], rfl, canon_of_ge hw hL hm.symm (by omega), hv, by omega, rfl, hmx, hrow, hb, hsz⟩
theorem added_carry {w w' : World} {zs : List Int} {s c : Int} {k m : Nat} (hz : zs.length = m) (hw : WF zs) (hv : val zs + pw m * c = s) (hc : c = 1) (hk : m + 1 ≤ k) (hmx : m + 1 ≤ 35184372088832)
    (hrow : Row w' w.heap.size (ws (zs ++ [c]))) (hb : Below w.heap.size w w') (hsz : w.heap.size < w'.heap.size) : Added w s k (.returned (.slice (some ⟨w.heap.size, 0, none⟩) (m + 1) (m + 1))) w' := by
  subst hc
  subst hz
  refine ⟨zs ++ [1], zs.length + 1, [], by simp, canon_snoc_one hw, ?_, by simpa using hk, by simp, hmx, by simpa using hrow, hb, hsz⟩
  rw [val_append]
  simpa [val] using hv

set_option maxHeartbeats 1600000 in
theorem add_any {w : World} {v u : Value} {xs ys : List Int} (h : Sl w.heap.size w v xs) (h' : Sl w.heap.size w u ys) (hl : xs.length < 35184372088832) (hl' : ys.length < 35184372088832) :
    Calls Tryd.prog 51 #[v, u] w (Added w (val xs + val ys) (max (wid xs) (wid ys) + 1)) := by
  have hs := h
  have hs' := h'
  obtain ⟨hw, a, cap, rfl, hlc, hcm, hm⟩ := h
  obtain ⟨hw', a', cap', rfl, hlc', hcm', hm'⟩ := h'
  have HW1 := width_any hs
  have HW2 := width_any hs'
  have l1 := wid_le xs
  have l2 := wid_le ys
  have HL1 : Hid ((lst xs).length = wid xs) := length_lst xs
  have HL2 : Hid ((lst ys).length = wid ys) := length_lst ys
  have HC1 := hid (canon_lst hw)
  have HC2 := hid (canon_lst hw')
  have HP1 := hid (val_nonneg hw)
  have HP2 := hid (val_nonneg hw')
  have HV1 := hid (val_lst xs)
  have HV2 := hid (val_lst ys)
  have hsrc := Sl.source (n := wid xs) hm
  change lst xs = [] ∨ ∃ b off, a = some ⟨b, off, none⟩ ∧ b < w.heap.size ∧ ∀ j (h : j < (lst xs).length), w.cell? ⟨b, off + j, none⟩ = some (.int .u64 (lst xs)[j]) at hsrc
  have HS1 := hid hsrc
  have hsrc' := Sl.source (n := wid ys) hm'
  change lst ys = [] ∨ ∃ b off, a' = some ⟨b, off, none⟩ ∧ b < w.heap.size ∧ ∀ j (h : j < (lst ys).length), w.cell? ⟨b, off + j, none⟩ = some (.int .u64 (lst ys)[j]) at hsrc'
  have HS2 := hid hsrc'
  have HK : Hid (wid xs + 1 ≤ max (wid xs) (wid ys) + 1 ∧ wid ys + 1 ≤ max (wid xs) (wid ys) + 1) := ⟨by omega, by omega⟩
  generalize max (wid xs) (wid ys) + 1 = K at *
  generalize lst xs = L1 at *
  generalize lst ys = L2 at *
  generalize wid xs = n1 at *
  generalize wid ys = n2 at *
  generalize val xs = x1 at *
  generalize val ys = x2 at *
  clear hm hsrc hs hw hm' hsrc' hs' hw'
  by_cases hlt : n1 < n2
  · go_enter Tryd.func51, Tryd.ntmps51
    go_wp2_with fail
    refine HW1.mono ?_
    rintro e w1 ⟨rfl, rfl⟩
    go_wp2_with fail
    refine HW2.mono ?_
    rintro e w1 ⟨rfl, rfl⟩
    clear HW1 HW2
    go_wp2_with (at_make; refine wpList_make_words _ rfl _ _ rfl _ _ n2 (n2 + 1) rfl rfl rfl (by omega) (by omega) (by omega) ?_)
    intro w2 hrow hb2 hsz2
    have hsrcB := hid (Sl.sourceB HS2.out hb2 (Nat.le_refl _))
    have hhs : w1.heap.size < w2.heap.size := by have := hsz2.out; omega
    go_wp2_with (refine wpList_copy_words _ rfl (.tmp 24) (.tmp 27) rfl w1.heap.size (n2 + 1) n2 _ _ _ L2 hrow rfl rfl HL2.out (by omega) hsrcB.out ?_)
    intro w3 hrow3 hb3
    have hrow4 : Hid (Row w3 w1.heap.size (ws L2 ++ [.int .u64 0])) := by unfold Hid; simpa [ws] using hrow3
    have hb13 := hid (hb2.trans hb3)
    have hsl := hid (Sl.sourceB HS1.out hb13.out (Nat.le_refl _))
    have hhs3 : w1.heap.size < w3.heap.size := Nat.lt_of_lt_of_le hhs hb3.size
    clear hrow3 hrow hsrcB hb2 hb3 hsz2 hhs
    go_wp2_with fail
    have hsl2 : Sl w1.heap.size w3 (.slice a n1 cap) L1 := ⟨HC1.out.1, _, cap, by rw [HL1.out], by rw [HL1.out]; omega, by rw [HL1.out]; omega, hsl.out⟩
    have hA := addTo_any (cap := n2 + 1) HC2.out.1 hrow4.out (by rw [HL2.out]; omega) hsl2 (by rw [HL2.out, HL1.out]; omega)
    rw [HL2.out] at hA
    refine hA.mono ?_
    clear hA hsl hsl2 hrow4
    rintro e w4 ⟨zs, c, rfl, hzl, hwz, hc0, hc1, hv, hr4, hb4⟩
    have HZL := hid hzl
    have HV4 : Hid (val zs + pw n2 * c = x1 + x2) := by unfold Hid; rw [hv, HV2.out, HV1.out]; try omega
    have hb14 := hid (hb13.out.trans hb4)
    have hhs4 : w1.heap.size < w4.heap.size := Nat.lt_of_lt_of_le hhs3 hb4.size
    clear hzl hv hb4 hb13
    by_cases hcc : c = 0
    · have hcb : (c != 0) = false := by simp [hcc]
      have HCC := hid hcc
      clear hcc
      go_wp2
      go_ret
      exact added_plain (t := x1) HC2.out HL2.out HZL.out hwz HV4.out (by rw [HV2.out]; try omega) HP1.out HCC.out HK.out.2 (by omega) hr4 hb14.out hhs4
    · have hcb : (c != 0) = true := by simp [hcc]
      have HCC : Hid (c = 1) := by unfold Hid; omega
      clear hcc
      go_wp2_with (at_builtin; refine wpList_append_word _ rfl (.tmp 36) (.tmp 38) rfl w1.heap.size n2 zs 0 c (hr4.alloc _) HZL.out (by omega) rfl ⟨w4.heap.size, 0, none⟩ rfl (by simp) ?_)
      intro w5 hr5 hb5
      have hb15 := hid ((hb14.out.alloc (Nat.le_of_lt hhs4) _).trans hb5)
      have hhs5 : w1.heap.size < w5.heap.size := by have := hb5.size; simp at this; omega
      clear hb5 hr4 hb14
      go_wp2
      go_ret
      exact added_carry HZL.out hwz HV4.out HCC.out HK.out.2 (by omega) hr5 hb15.out hhs5
  · go_enter Tryd.func51, Tryd.ntmps51
    go_wp2_with fail
    refine HW1.mono ?_
    rintro e w1 ⟨rfl, rfl⟩
    go_wp2_with fail
    refine HW2.mono ?_
    rintro e w1 ⟨rfl, rfl⟩
    clear HW1 HW2
    go_wp2_with (at_make; refine wpList_make_words _ rfl _ _ rfl _ _ n1 (n1 + 1) rfl rfl rfl (by omega) (by omega) (by omega) ?_)
    intro w2 hrow hb2 hsz2
    have hsrcB := hid (Sl.sourceB HS1.out hb2 (Nat.le_refl _))
    have hhs : w1.heap.size < w2.heap.size := by have := hsz2.out; omega
    go_wp2_with (refine wpList_copy_words _ rfl (.tmp 24) (.tmp 27) rfl w1.heap.size (n1 + 1) n1 _ _ _ L1 hrow rfl rfl HL1.out (by omega) hsrcB.out ?_)
    intro w3 hrow3 hb3
    have hrow4 : Hid (Row w3 w1.heap.size (ws L1 ++ [.int .u64 0])) := by unfold Hid; simpa [ws] using hrow3
    have hb13 := hid (hb2.trans hb3)
    have hsl := hid (Sl.sourceB HS2.out hb13.out (Nat.le_refl _))
    have hhs3 : w1.heap.size < w3.heap.size := Nat.lt_of_lt_of_le hhs hb3.size
    clear hrow3 hrow hsrcB hb2 hb3 hsz2 hhs
    go_wp2_with fail
    have hsl2 : Sl w1.heap.size w3 (.slice a' n2 cap') L2 := ⟨HC2.out.1, _, cap', by rw [HL2.out], by rw [HL2.out]; omega, by rw [HL2.out]; omega, hsl.out⟩
    have hA := addTo_any (cap := n1 + 1) HC1.out.1 hrow4.out (by rw [HL1.out]; omega) hsl2 (by rw [HL1.out, HL2.out]; omega)
    rw [HL1.out] at hA
    refine hA.mono ?_
    clear hA hsl hsl2 hrow4
    rintro e w4 ⟨zs, c, rfl, hzl, hwz, hc0, hc1, hv, hr4, hb4⟩
    have HZL := hid hzl
    have HV4 : Hid (val zs + pw n1 * c = x1 + x2) := by unfold Hid; rw [hv, HV1.out, HV2.out]; try omega
    have hb14 := hid (hb13.out.trans hb4)
    have hhs4 : w1.heap.size < w4.heap.size := Nat.lt_of_lt_of_le hhs3 hb4.size
    clear hzl hv hb4 hb13
    by_cases hcc : c = 0
    · have hcb : (c != 0) = false := by simp [hcc]
      have HCC := hid hcc
      clear hcc
      go_wp2
      go_ret
      exact added_plain (t := x2) HC1.out HL1.out HZL.out hwz HV4.out (by rw [HV1.out]; try omega) HP2.out HCC.out HK.out.1 (by omega) hr4 hb14.out hhs4
    · have hcb : (c != 0) = true := by simp [hcc]
      have HCC : Hid (c = 1) := by unfold Hid; omega
      clear hcc
      go_wp2_with (at_builtin; refine wpList_append_word _ rfl (.tmp 36) (.tmp 38) rfl w1.heap.size n1 zs 0 c (hr4.alloc _) HZL.out (by omega) rfl ⟨w4.heap.size, 0, none⟩ rfl (by simp) ?_)
      intro w5 hr5 hb5
      have hb15 := hid ((hb14.out.alloc (Nat.le_of_lt hhs4) _).trans hb5)
      have hhs5 : w1.heap.size < w5.heap.size := by have := hb5.size; simp at this; omega
      clear hb5 hr4 hb14
      go_wp2
      go_ret
      exact added_carry HZL.out hwz HV4.out HCC.out HK.out.1 (by omega) hr5 hb15.out hhs5
end Go.Proofs.YtdfnehngffajiabDoor
