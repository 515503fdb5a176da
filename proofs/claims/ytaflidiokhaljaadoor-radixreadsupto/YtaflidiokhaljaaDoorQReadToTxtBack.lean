/-
  QReadToTxtBack: Read, Dec4, TxtBack, joined.
-/
import Derived.Test.YtaflidiokhaljaaDoorQJoined
import Derived.Test.YtaflidiokhaljaaDoorQTextToValueOf

/- Read -/
namespace Go.Proofs.YtaflidiokhaljaaDoor
open Go.RowKit
set_option linter.unusedVariables false

/-- What Read answers to a text, in a base that is one. -/
def ReadPost (w : World) (B : Nat) (l : List UInt8) (e : Ending) (w' : World) : Prop :=
  ((l ≠ [] ∧ Good B l) ∧ ∃ zs a c, e = .returned (.tuple #[.slice a zs.length c, .int .i64 0]) ∧ Mine 0 w' (.slice a zs.length c) zs ∧ Canon zs ∧ vn zs = ofD B (dsL l) ∧ Below w.heap.size w w') ∨
  (¬ (l ≠ [] ∧ Good B l) ∧ e = .returned (.tuple #[.slice none 0 0, .int .i64 7]) ∧ Below w.heap.size w w')
theorem cut_nil {w : World} {B D : Nat} : Calls Tryd.prog 38 #[.string ⟨([] : List UInt8).toArray⟩, .int .i64 (B : Int), .int .i64 (D : Int)] w fun e w' => e = .returned (.tuple #[.slice none 0 0, .int .i64 7]) ∧ w' = w := by
  go_enter Tryd.func38, Tryd.ntmps38
  go_wp2
  go_ret2
  exact ⟨rfl, rfl⟩
theorem cut_all {w : World} {B D : Nat} {l : List UInt8} (hB : 2 ≤ B) (hB2 : B ≤ 36) (hD : WD B D) (hT : Sg w) (hl : l.length ≤ 1000000000) :
    Calls Tryd.prog 38 #[.string ⟨l.toArray⟩, .int .i64 (B : Int), .int .i64 (D : Int)] w fun e w' =>
      ((l ≠ [] ∧ Good B l) ∧ ∃ Gs a cap, e = .returned (.tuple #[.slice a Gs.length cap, .int .i64 0]) ∧ Bunch w.heap.size w' (.slice a Gs.length cap) (partsF Gs) ∧ 0 < Gs.length ∧ Gs.length ≤ l.length ∧ (∀ G ∈ Gs, G < B ^ D) ∧ ofD (B ^ D) Gs.reverse = ofD B (dsL l) ∧ Below w.heap.size w w') ∨
      (¬ (l ≠ [] ∧ Good B l) ∧ e = .returned (.tuple #[.slice none 0 0, .int .i64 7]) ∧ Below w.heap.size w w') := by
  by_cases h : l = []
  · subst h
    exact cut_nil.mono fun e w' ⟨h1, h2⟩ => .inr ⟨fun q => q.1 rfl, h1, by rw [h2]; exact Below.refl _ _⟩
  · refine (cut_any hB hB2 hD hT h hl).mono fun e w' hp => ?_
    rcases hp with ⟨g, Gs, a, cap, h1, _, h2, h3, h4, h5, h6, h7⟩ | ⟨g, h1, h2⟩
    · exact .inl ⟨⟨h, g⟩, Gs, a, cap, h1, h2, h3, h4, h5, h6, h7⟩
    · exact .inr ⟨fun q => g q.2, h1, h2⟩
set_option maxRecDepth 100000 in
set_option maxHeartbeats 3200000 in
theorem read_any {w : World} {B : Nat} {l : List UInt8} (hB : 2 ≤ B) (hB2 : B ≤ 36) (hT : Sg w) (hl : l.length ≤ 1000000000) :
    Calls Tryd.prog 19 #[.string ⟨l.toArray⟩, .int .i64 (B : Int)] w (ReadPost w B l) := by
  have HT := hid hT
  have HIB := hid (isBase_any (B : Int) (by omega) (by omega) w)
  rw [decide_eq_true (show (2 : Int) ≤ (B : Int) ∧ (B : Int) ≤ 36 by omega)] at HIB
  have HWF := hid (wordful_any hB hB2 w)
  obtain ⟨s, hs⟩ : ∃ s, s = (⟨l.toArray⟩ : ByteArray) := ⟨_, rfl⟩
  have HS := hid hs
  rw [← hs]
  clear hT hs
  go_enter Tryd.func19, Tryd.ntmps19
  go_wp2_with fail
  refine HIB.out.mono ?_
  rintro e w0 ⟨rfl, rfl⟩
  clear HIB
  go_wp2_with fail
  refine HWF.out.mono ?_
  rintro e w1 ⟨D, hD, rfl, mP, k1⟩
  have HCU := hid (cut_all (l := l) hB hB2 hD (HT.out.now k1) hl)
  rw [← HS.out] at HCU
  have K1 := hid k1
  have HP := hid mP
  have HD := hid hD
  clear HWF mP k1 hD
  go_wp2_with fail
  refine HCU.out.mono ?_
  rintro e w2 (⟨hg, Gs, a, cap, rfl, hbu, hg0, hgl, hgs, hv, k2⟩ | ⟨hg, rfl, k2⟩)
  · have HG := hid hg
    have hpl : (partsF Gs).length = Gs.length := by simp [partsF]
    have hco := canon_one (Nat.lt_of_lt_of_le (by omega) (Nat.pow_pos (n := D) (show 0 < B by omega))) HD.out.2.2.1
    have K2 := hid (below_step K1.out k2)
    have HJO := hid (joined_any (B0 := w1.heap.size) (w := w2) (Ps0 := partsF Gs) (a := a) (cap := cap) (ps0 := [((B ^ D : Nat) : Int)]) (N := ofD B (dsL l)) (by rw [hpl]; exact hbu) (HP.out.below k2) hco.1 (by rw [hpl]; exact hg0) (by rw [hpl]; omega) (by simp) (by rw [hco.2, lowv_parts]; exact hv) (fun i h => by
      have hi : i < Gs.length := by rw [hpl] at h; exact h
      have e : (partsF Gs)[i] = [((Gs[i] : Nat) : Int)] := by simp [partsF]
      rw [e, hco.2]
      exact ⟨by simpa [vn] using hgs _ (List.getElem_mem hi), by simp⟩) k2.size)
    rw [hpl] at HJO
    clear hbu hgs hv k2 HCU hco hg
    go_wp2_with fail
    refine HJO.out.mono ?_
    rintro e w3 ⟨zs, za, zc, rfl, mz, cz, vz, k3⟩
    have K3 : Hid (Below w0.heap.size w0 w3) := K2.out.trans (k3.mono K1.out.size)
    have MZ := hid mz
    clear HJO mz k3
    go_wp2
    go_ret2
    exact .inl ⟨HG.out, zs, za, zc, rfl, MZ.out, cz, vz, K3.out⟩
  · have HG := hid hg
    have K2 := hid (below_step K1.out k2)
    clear k2 HCU hg
    go_wp2
    go_ret2
    exact .inr ⟨HG.out, rfl, K2.out⟩
theorem read_bad {w : World} {b : Int} (h0 : -9223372036854775808 ≤ b) (h1 : b ≤ 9223372036854775807) (hb : ¬ (2 ≤ b ∧ b ≤ 36)) (s : ByteArray) : Calls Tryd.prog 19 #[.string s, .int .i64 b] w fun e w' => e = .returned (.tuple #[.slice none 0 0, .int .i64 3]) ∧ w' = w := by
  have HIB := hid (isBase_any b h0 h1 w)
  rw [decide_eq_false hb] at HIB
  clear hb
  go_enter Tryd.func19, Tryd.ntmps19
  go_wp2_with fail
  refine HIB.out.mono ?_
  rintro e w0 ⟨rfl, rfl⟩
  clear HIB
  go_wp2
  go_ret2
  exact ⟨rfl, rfl⟩
theorem text_bad {w : World} {b : Int} (h0 : -9223372036854775808 ≤ b) (h1 : b ≤ 9223372036854775807) (hb : ¬ (2 ≤ b ∧ b ≤ 36)) (v : Value) : Calls Tryd.prog 10 #[v, .int .i64 b] w fun e w' => e = .returned (.tuple #[.string ⟨#[]⟩, .int .i64 3]) ∧ w' = w := by
  have HIB := hid (isBase_any b h0 h1 w)
  rw [decide_eq_false hb] at HIB
  clear hb
  go_enter Tryd.func10, Tryd.ntmps10
  go_wp2_with fail
  refine HIB.out.mono ?_
  rintro e w0 ⟨rfl, rfl⟩
  clear HIB
  go_wp2
  go_ret2
  exact ⟨rfl, rfl⟩
end Go.Proofs.YtaflidiokhaljaaDoor

/- Dec4 -/
namespace Go.Proofs.YtaflidiokhaljaaDoor
open Go.RowKit
set_option linter.unusedVariables false

/-- A list of one word that is written down. -/
theorem lit_one (w : World) (x : Int) (hx : IsW x) : Sl (w.alloc (.cells #[.int .u64 x] 33)).heap.size (w.alloc (.cells #[.int .u64 x] 33)) (.slice (some ⟨w.heap.size, 0, none⟩) 1 1) [x] :=
  lit_last w [x] #[.int .u64 x] rfl (wf_word (by unfold IsW wB at hx; omega) WF.nil) (by simp) 1 rfl
theorem dec_any {w : World} {va : Value} {xs : List Int} (ha : Sl w.heap.size w va xs) (lx : xs.length ≤ 1048576) (hT : Sg w) :
    Calls Tryd.prog 13 #[va] w fun e w' => e = .returned (.string (txt 10 (vn xs))) ∧ Below w.heap.size w w' := by
  have HT := hid (text_any (B := 10) ha lx (by omega) (by omega) hT)
  obtain ⟨a, c, rfl⟩ : ∃ a c, va = .slice a xs.length c := by obtain ⟨_, a, c, e, _⟩ := ha; exact ⟨a, c, e⟩
  clear ha hT
  generalize txt 10 (vn xs) = t at *
  go_enter Tryd.func13, Tryd.ntmps13
  go_wp2_with fail
  refine HT.out.mono ?_
  rintro e w1 ⟨rfl, k1⟩
  have K1 := hid k1
  clear k1 HT
  go_wp2
  go_ret
  exact ⟨rfl, K1.out⟩
theorem txtL_le {B n k : Nat} (hB : 2 ≤ B) (h : n < B ^ k) (hk : 1 ≤ k) : (txtL B n).length ≤ k := by
  unfold txtL
  split
  · simpa using hk
  · rw [List.length_map, leadD_any (lt_pow_self hB n) h]
    unfold lead
    exact Nat.le_trans (List.dropWhile_suffix _).length_le (Nat.le_of_eq (digF_len B k n))
theorem txt_size {B : Nat} {xs : List Int} (hB : 2 ≤ B) (hx : WF xs) (lx : xs.length ≤ 1048576) : (txt B (vn xs)).size ≤ 67108865 := by
  have h1 := vn_lt_two hx
  have h2 : 2 ^ (64 * xs.length) ≤ B ^ (64 * xs.length + 1) := Nat.le_trans (Nat.pow_le_pow_left hB _) (Nat.pow_le_pow_right (by omega) (Nat.le_succ _))
  have h3 := txtL_le hB (Nat.lt_of_lt_of_le h1 h2) (by omega)
  have h4 : (txt B (vn xs)).size = (txtL B (vn xs)).length := mk_size _
  omega
end Go.Proofs.YtaflidiokhaljaaDoor

/- TxtBack -/
namespace Go.Proofs.YtaflidiokhaljaaDoor
open Go.RowKit
set_option linter.unusedVariables false

theorem dv_sgn {d : Nat} (h : d < 36) : dv (sgnB d).toNat = d := by
  rw [sgnB_nat h]
  unfold sgn dv
  (repeat' split) <;> omega
theorem mem_lead {ds : List Nat} {d : Nat} (h : d ∈ lead ds) : d ∈ ds := (List.dropWhile_suffix _).subset h
theorem txt_ds {B n : Nat} (hB : 2 ≤ B) (hB2 : B ≤ 36) (hn : n ≠ 0) : dsL (txtL B n) = lead (digF B n n) := by
  unfold txtL dsL
  rw [if_neg hn, List.map_map]
  conv => rhs; rw [← List.map_id (lead (digF B n n))]
  apply List.map_congr_left
  intro d hd
  exact dv_sgn (by have := digF_lt (show 0 < B by omega) n n d (mem_lead hd); omega)
theorem txt_back {B n : Nat} (hB : 2 ≤ B) (hB2 : B ≤ 36) : (txtL B n ≠ [] ∧ Good B (txtL B n)) ∧ ofD B (dsL (txtL B n)) = n := by
  by_cases hn : n = 0
  · subst hn
    have e : txtL B 0 = [48] := by unfold txtL; rw [if_pos rfl]
    rw [e]
    refine ⟨⟨by simp, fun b hb => ?_⟩, by rw [show dsL [48] = [0] from rfl, ofD_one]⟩
    rw [List.mem_singleton.1 hb]
    exact Nat.lt_of_lt_of_le (by decide : dv (48 : UInt8).toNat < 2) hB
  · refine ⟨⟨txtL_ne hB hn, fun b hb => ?_⟩, ?_⟩
    · have h1 : dv b.toNat ∈ dsL (txtL B n) := List.mem_map.2 ⟨b, hb, rfl⟩
      rw [txt_ds hB hB2 hn] at h1
      exact digF_lt (by omega) n n _ (mem_lead h1)
    · rw [txt_ds hB hB2 hn, ofD_lead, ofD_digF, Nat.mod_eq_of_lt (lt_pow_self hB n)]
theorem good_ten {l : List UInt8} (h : Good 10 l) {c : UInt8} (hc : c ∈ l) : c.toNat < 128 ∧ c ≠ 95 := by
  have h1 := h c hc
  have h2 : 48 ≤ c.toNat ∧ c.toNat ≤ 57 := by
    unfold dv at h1
    (repeat' split at h1) <;> omega
  exact ⟨by omega, fun e => by rw [e] at h2; exact absurd h2.2 (by decide)⟩
end Go.Proofs.YtaflidiokhaljaaDoor
