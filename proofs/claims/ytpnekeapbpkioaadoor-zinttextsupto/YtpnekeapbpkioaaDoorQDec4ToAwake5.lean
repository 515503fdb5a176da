/-
  QDec4ToAwake5: Dec4, TxtBack, Awake5, joined.
-/
import Derived.Test.YtpnekeapbpkioaaDoorQText
import Derived.Test.YtpnekeapbpkioaaDoorQJoinedToRead
import Derived.Test.YtpnekeapbpkioaaDoorQAlikeToZDiv

/- Dec4 -/
namespace Go.Proofs.YtpnekeapbpkioaaDoor
open Go.RowKit
set_option linter.unusedVariables false

/-- A list of one word that is written down. -/
theorem lit_one (w : World) (x : Int) (hx : IsW x) : Sl (w.alloc (.cells #[.int .u64 x] 36)).heap.size (w.alloc (.cells #[.int .u64 x] 36)) (.slice (some ⟨w.heap.size, 0, none⟩) 1 1) [x] :=
  lit_last w [x] #[.int .u64 x] rfl (wf_word (by unfold IsW wB at hx; omega) WF.nil) (by simp) 1 rfl
theorem dec_any {w : World} {va : Value} {xs : List Int} (ha : Sl w.heap.size w va xs) (lx : xs.length ≤ 1048576) (hT : Sg w) :
    Calls Tryd.prog 15 #[va] w fun e w' => e = .returned (.string (txt 10 (vn xs))) ∧ Below w.heap.size w w' := by
  have HT := hid (text_any (B := 10) ha lx (by omega) (by omega) hT)
  obtain ⟨a, c, rfl⟩ : ∃ a c, va = .slice a xs.length c := by obtain ⟨_, a, c, e, _⟩ := ha; exact ⟨a, c, e⟩
  clear ha hT
  generalize txt 10 (vn xs) = t at *
  go_enter Tryd.func15, Tryd.ntmps15
  go_wp2_with fail
  refine HT.out.mono ?_
  rintro e w1 ⟨rfl, k1⟩
  have K1 := hid k1
  clear k1 HT
  go_wp2
  go_ret
  exact ⟨rfl, K1.out⟩
theorem txtL_le {B n k : Nat} (hB : 2 ≤ B) (h : n < B ^ k) (hk : 1 ≤ k) : (txtL B n).length ≤ k := by
  unfold txtL
  split
  · simpa using hk
  · rw [List.length_map, leadD_any (lt_pow_self hB n) h]
    unfold lead
    exact Nat.le_trans (List.dropWhile_suffix _).length_le (Nat.le_of_eq (digF_len B k n))
theorem txt_size {B : Nat} {xs : List Int} (hB : 2 ≤ B) (hx : WF xs) (lx : xs.length ≤ 1048576) : (txt B (vn xs)).size ≤ 67108865 := by
  have h1 := vn_lt_two hx
  have h2 : 2 ^ (64 * xs.length) ≤ B ^ (64 * xs.length + 1) := Nat.le_trans (Nat.pow_le_pow_left hB _) (Nat.pow_le_pow_right (by omega) (Nat.le_succ _))
  have h3 := txtL_le hB (Nat.lt_of_lt_of_le h1 h2) (by omega)
  have h4 : (txt B (vn xs)).size = (txtL B (vn xs)).length := mk_size _
  omega
end Go.Proofs.YtpnekeapbpkioaaDoor

/- TxtBack -/
namespace Go.Proofs.YtpnekeapbpkioaaDoor
open Go.RowKit
set_option linter.unusedVariables false

theorem dv_sgn {d : Nat} (h : d < 36) : dv (sgnB d).toNat = d := by
  rw [sgnB_nat h]
  unfold sgn dv
  (repeat' split) <;> omega
theorem mem_lead {ds : List Nat} {d : Nat} (h : d ∈ lead ds) : d ∈ ds := (List.dropWhile_suffix _).subset h
theorem txt_ds {B n : Nat} (hB : 2 ≤ B) (hB2 : B ≤ 36) (hn : n ≠ 0) : dsL (txtL B n) = lead (digF B n n) := by
  unfold txtL dsL
  rw [if_neg hn, List.map_map]
  conv => rhs; rw [← List.map_id (lead (digF B n n))]
  apply List.map_congr_left
  intro d hd
  exact dv_sgn (by have := digF_lt (show 0 < B by omega) n n d (mem_lead hd); omega)
theorem txt_back {B n : Nat} (hB : 2 ≤ B) (hB2 : B ≤ 36) : (txtL B n ≠ [] ∧ Good B (txtL B n)) ∧ ofD B (dsL (txtL B n)) = n := by
  by_cases hn : n = 0
  · subst hn
    have e : txtL B 0 = [48] := by unfold txtL; rw [if_pos rfl]
    rw [e]
    refine ⟨⟨by simp, fun b hb => ?_⟩, by rw [show dsL [48] = [0] from rfl, ofD_one]⟩
    rw [List.mem_singleton.1 hb]
    exact Nat.lt_of_lt_of_le (by decide : dv (48 : UInt8).toNat < 2) hB
  · refine ⟨⟨txtL_ne hB hn, fun b hb => ?_⟩, ?_⟩
    · have h1 : dv b.toNat ∈ dsL (txtL B n) := List.mem_map.2 ⟨b, hb, rfl⟩
      rw [txt_ds hB hB2 hn] at h1
      exact digF_lt (by omega) n n _ (mem_lead h1)
    · rw [txt_ds hB hB2 hn, ofD_lead, ofD_digF, Nat.mod_eq_of_lt (lt_pow_self hB n)]
theorem good_ten {l : List UInt8} (h : Good 10 l) {c : UInt8} (hc : c ∈ l) : c.toNat < 128 ∧ c ≠ 95 := by
  have h1 := h c hc
  have h2 : 48 ≤ c.toNat ∧ c.toNat ≤ 57 := by
    unfold dv at h1
    (repeat' split at h1) <;> omega
  exact ⟨by omega, fun e => by rw [e] at h2; exact absurd h2.2 (by decide)⟩
end Go.Proofs.YtpnekeapbpkioaaDoor

/- Awake5 -/
namespace Go.Proofs.YtpnekeapbpkioaaDoor
open Go.RowKit
set_option linter.unusedVariables false

/-- An integer in base ten. -/
def ztxt (z : Int) : ByteArray := if z < 0 then ⟨#[45]⟩ ++ txt 10 z.natAbs else txt 10 z.natAbs
theorem iv_vn {n : Bool} {xs : List Int} {z : Int} (hx : WF xs) (h : iv n xs = z) : vn xs = z.natAbs := by
  have h1 := iv_abs hx h
  have h2 := val_vn hx
  omega

set_option maxHeartbeats 800000 in
set_option maxRecDepth 100000 in
theorem text_z {w : World} {v : Value} {z : Int} {k : Nat} (h : Zi w v z k) (hk : k ≤ 1048576) (hT : Sg w) :
    Calls Tryd.prog 6 #[v] w fun e w' => e = .returned (.string (ztxt z)) ∧ Below w.heap.size w w' := by
  have hv := h
  obtain ⟨n, xs, a, c, rfl, s0, z0, k0⟩ := h
  obtain ⟨W0, hW0⟩ : ∃ W0, w.alloc (duo (.bool n) (.slice a xs.length c)) = W0 := ⟨_, rfl⟩
  have b0 : Below w.heap.size w W0 := by rw [← hW0]; exact (Below.refl _ _).alloc (Nat.le_refl _) _
  have sz0 : W0.heap.size = w.heap.size + 1 := by rw [← hW0]; simp
  have p0 : Duo W0 w.heap.size (.bool n) (.slice a xs.length c) := by rw [← hW0]; exact Duo.new w _ _
  have HS := hid (sign_z (hv.now b0))
  have HD : Hid (∀ w', Below W0.heap.size W0 w' → Calls Tryd.prog 15 #[.slice a xs.length c] w' fun e w'' => e = .returned (.string (txt 10 z.natAbs)) ∧ Below w'.heap.size w' w'') := fun w' h => by
    rw [← iv_vn s0.1 z0]
    exact dec_any ((s0.now b0).now h) (by omega) ((hT.now b0).now h)
  have HKB : Hid (∀ w', Below W0.heap.size W0 w' → Duo w' w.heap.size (.bool n) (.slice a xs.length c)) := fun w' h => p0.below h (by omega)
  have EW := hid hW0
  have B0 := hid b0
  have HSZ : Hid ((txt 10 z.natAbs).size ≤ 67108865) := by
    unfold Hid
    rw [← iv_vn s0.1 z0]
    exact txt_size (by omega) s0.1 (by omega)
  clear hv s0 z0 hT hW0 b0 p0
  by_cases hz : z < 0
  · have hs : cmpI z 0 < 0 := cmpI_neg hz
    have ht : Hid (ztxt z = ⟨#[45]⟩ ++ txt 10 z.natAbs) := by unfold Hid ztxt; rw [if_pos hz]
    rw [ht.out]
    generalize cmpI z 0 = C at *
    have hsz := HSZ.out
    clear HSZ
    generalize txt 10 z.natAbs = t at *
    go_enter Tryd.func6, Tryd.ntmps6
    go_wp2_with fail
    rw [EW.out]
    refine HS.out.mono ?_
    rintro e w1 ⟨rfl, b1⟩
    have c1 := (HKB.out w1 b1).c1
    have H1 := hid (HD.out w1 b1)
    have B1 := hid (below_step B0.out b1)
    clear b1 HS
    go_wp2_with fail
    refine H1.out.mono ?_
    rintro e w2 ⟨rfl, b2⟩
    have B2 := hid (below_step B1.out b2)
    clear b2 H1
    go_wp2
    go_ret
    exact ⟨rfl, B2.out⟩
  · have hs : ¬ cmpI z 0 < 0 := cmpI_nonneg (by omega)
    have ht : Hid (ztxt z = txt 10 z.natAbs) := by unfold Hid ztxt; rw [if_neg hz]
    rw [ht.out]
    generalize cmpI z 0 = C at *
    generalize txt 10 z.natAbs = t at *
    go_enter Tryd.func6, Tryd.ntmps6
    go_wp2_with fail
    rw [EW.out]
    refine HS.out.mono ?_
    rintro e w1 ⟨rfl, b1⟩
    have c1 := (HKB.out w1 b1).c1
    have H1 := hid (HD.out w1 b1)
    have B1 := hid (below_step B0.out b1)
    clear b1 HS
    go_wp2_with fail
    refine H1.out.mono ?_
    rintro e w2 ⟨rfl, b2⟩
    have B2 := hid (below_step B1.out b2)
    clear b2 H1
    go_wp2
    go_ret
    exact ⟨rfl, B2.out⟩

theorem txt_15 : txt 10 15 = ⟨#[49, 53]⟩ := by
  have e : lead (digF 10 15 15) = [1, 5] := by
    rw [leadD_any (k := 2) (lt_pow_self (by omega) 15) (by decide)]
    decide
  unfold txt txtL
  rw [if_neg (by decide), e]
  rfl
theorem ztxt_15 : ztxt (-15) = ⟨#[45, 49, 53]⟩ := by
  unfold ztxt
  rw [if_pos (by decide), show (-15 : Int).natAbs = 15 from rfl, txt_15]
  rfl
set_option maxHeartbeats 1600000 in
set_option maxRecDepth 100000 in
theorem awake5_any {w : World} (hT : Sg w) : Calls Tryd.prog 4 #[] w fun e w' => e = .returned (.bool true) ∧ Below w.heap.size w w' := by
  obtain ⟨W0, hW0⟩ : ∃ W0, (w.alloc (.cells #[.int .u64 3, .int .u64 0] 36)).alloc (.cells #[.int .u64 5] 36) = W0 := ⟨_, rfl⟩
  obtain ⟨b0, sz0⟩ := alloc2 w (.cells #[.int .u64 3, .int .u64 0] 36) (.cells #[.int .u64 5] 36)
  rw [hW0] at b0 sz0
  have l1 := (lit_last w [3, 0] #[.int .u64 3, .int .u64 0] rfl (wf_word (by omega) (wf_word (by omega) WF.nil)) (by simp) 2 rfl).later (.cells #[.int .u64 5] 36)
  have l2 := word_one (w.alloc (.cells #[.int .u64 3, .int .u64 0] 36)) 5 (by omega)
  rw [hW0] at l1 l2
  simp only [World.size_alloc] at l2
  have HM := hid (mul_z (w := W0) (v := .agg #[.bool true, .slice (some ⟨w.heap.size, 0, none⟩) 2 2]) (u := .agg #[.bool false, .slice (some ⟨w.heap.size + 1, 0, none⟩) 1 1]) (z := -3) (y := 5) (k := 2) (l := 1) ⟨true, [3, 0], _, 2, rfl, l1, by simp [iv, val], by simp⟩ ⟨false, [5], _, 1, rfl, l2, by simp [iv, val], by simp⟩ (by omega))
  have ez : (-3 : Int) * 5 = -15 := by decide
  rw [ez] at HM
  have HT := hid (hT.now b0)
  have EW := hid hW0
  have B0 := hid b0
  clear hT l1 l2 hW0 b0 ez
  go_enter Tryd.func4, Tryd.ntmps4
  go_wp2_with fail
  rw [EW.out]
  refine HM.out.mono ?_
  rintro e w1 ⟨r, rfl, m1, b1⟩
  have hz := m1.zi
  obtain ⟨n, zs, a, c, rfl, h1, h2, h3, h4, h5⟩ := m1
  obtain ⟨rfl, rfl⟩ := iv_one (n := n) (m := true) (xs := zs) (ys := [15]) (by rw [h4]; simp [iv, val]) h2 ⟨wf_word (by omega) WF.nil, rfl⟩ h3 (fun e => by cases e)
  obtain ⟨W1, hW1⟩ : ∃ W1, w1.alloc (duo (.bool true) (.slice a [(15 : Int)].length c)) = W1 := ⟨_, rfl⟩
  have k1 : Below w1.heap.size w1 W1 := by rw [← hW1]; exact (Below.refl _ _).alloc (Nat.le_refl _) _
  have sz1 : W1.heap.size = w1.heap.size + 1 := by rw [← hW1]; simp
  have p1 : Duo W1 w1.heap.size (.bool true) (.slice a [(15 : Int)].length c) := by rw [← hW1]; exact Duo.new w1 _ _
  have HX := hid (text_z (hz.now k1) (by omega) ((HT.out.now b1).now k1))
  rw [ztxt_15] at HX
  have HKB : Hid (∀ w', Below W1.heap.size W1 w' → Duo w' w1.heap.size (.bool true) (.slice a [(15 : Int)].length c)) := fun w' h => p1.below h (by omega)
  have HS1 := hid (h1.sl.now k1)
  have B1 := hid (below_step (below_step B0.out b1) k1)
  have EW1 := hid hW1
  clear hz h1 h2 h3 h4 h5 hW1 k1 p1 b1 HM HT
  go_wp2_with fail
  simp only [List.length_cons, List.length_nil, Nat.zero_add] at EW1 HKB HX HS1
  rw [EW1.out]
  refine HX.out.mono ?_
  rintro e w2 ⟨rfl, b2⟩
  have c0 := (HKB.out w2 b2).c0
  have c1 := (HKB.out w2 b2).c1
  have hs := HS1.out.now b2
  obtain ⟨_, a', c', he, _, _, e | ⟨b, off, hab, _, hcell⟩⟩ := hs
  · cases e
  simp only [Value.slice.injEq] at he
  obtain ⟨rfl, -, rfl⟩ := he
  subst hab
  have d0 : w2.cell? ⟨b, off, none⟩ = some (.int .u64 15) := hcell 0 (by simp)
  have B2 := hid (below_step B1.out b2)
  have q1 : ((1 : Int) == 1) = true := rfl
  have q15 : ((15 : Int) == 15) = true := rfl
  clear hcell b2 HX HS1
  go_wp2
  go_ret
  exact ⟨rfl, B2.out⟩
end Go.Proofs.YtpnekeapbpkioaaDoor
