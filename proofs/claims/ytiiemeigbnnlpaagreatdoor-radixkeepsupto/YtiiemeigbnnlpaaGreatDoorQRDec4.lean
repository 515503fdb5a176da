/-
  RDec4: the reference's Dec, Digits, Grouped; Text at what is no base.
-/
import Derived.Test.YtiiemeigbnnlpaaGreatDoorQRText4
import Derived.Test.YtiiemeigbnnlpaaGreatDoorQGroup4ToValueOf
namespace Go.Proofs.YtiiemeigbnnlpaaGreatDoor
open Go.RowKit
set_option linter.unusedVariables false

theorem rtext_bad {w : World} {b : Int} (h0 : -9223372036854775808 ≤ b) (h1 : b ≤ 9223372036854775807) (hb : ¬ (2 ≤ b ∧ b ≤ 36)) (v : Value) : Calls Tryz.prog 22 #[v, .int .i64 b] w fun e w' => e = .returned (.tuple #[.string ⟨#[]⟩, .int .i64 3]) ∧ w' = w := by
  by_cases h : b < 2
  · clear hb
    go_enter Tryz.func22, Tryz.ntmps22
    go_wp2
    go_ret2
    exact ⟨rfl, rfl⟩
  · have h2 : 36 < b := by omega
    clear hb
    go_enter Tryz.func22, Tryz.ntmps22
    go_wp2
    go_ret2
    exact ⟨rfl, rfl⟩
theorem rdec_any {w : World} {va : Value} {xs : List Int} (ha : Sl w.heap.size w va xs) (lx : xs.length ≤ 1048576) :
    Calls Tryz.prog 23 #[va] w fun e w' => e = .returned (.string (txt 10 (vn xs))) ∧ Below w.heap.size w w' := by
  have HT := hid (rtext_any (B := 10) ha lx (by omega) (by omega))
  obtain ⟨a, c, rfl⟩ : ∃ a c, va = .slice a xs.length c := by obtain ⟨_, a, c, e, _⟩ := ha; exact ⟨a, c, e⟩
  clear ha
  go_enter Tryz.func23, Tryz.ntmps23
  go_wp2_with fail
  refine HT.out.mono ?_
  rintro e w1 ⟨rfl, k⟩
  have K := hid k
  clear k HT
  go_wp2
  go_ret
  exact ⟨rfl, K.out⟩
theorem rdigits_any {w : World} {va : Value} {xs : List Int} (ha : Sl w.heap.size w va xs) (lx : xs.length ≤ 1048576) :
    Calls Tryz.prog 25 #[va] w fun e w' => e = .returned (.int .i64 ((txtL 10 (vn xs)).length : Int)) ∧ Below w.heap.size w w' := by
  have HT := hid (rdec_any ha lx)
  obtain ⟨a, c, rfl⟩ : ∃ a c, va = .slice a xs.length c := by obtain ⟨_, a, c, e, _⟩ := ha; exact ⟨a, c, e⟩
  have hz : Hid ((txt 10 (vn xs)).size = (txtL 10 (vn xs)).length) := mk_size _
  clear ha
  generalize txt 10 (vn xs) = s at *
  go_enter Tryz.func25, Tryz.ntmps25
  go_wp2_with fail
  refine HT.out.mono ?_
  rintro e w1 ⟨rfl, k⟩
  have K := hid k
  clear k HT
  go_wp2
  go_ret
  exact ⟨by rw [← hz.out]; rfl, K.out⟩
/-- What the reference lays of the first k bytes. -/
def grpB (l : List UInt8) : Nat → List Int
  | 0 => []
  | k + 1 => grpB l k ++ (if 0 < k ∧ (l.length - k) % 3 = 0 then [95, ((l.getD k 0).toNat : Int)] else [((l.getD k 0).toNat : Int)])
theorem grpB_len (l : List UInt8) : ∀ k, (grpB l k).length ≤ 2 * k
  | 0 => Nat.le_refl _
  | k + 1 => by
    have := grpB_len l k
    unfold grpB
    rw [List.length_append]
    split <;> simp <;> omega
theorem grpB_drop (l : List UInt8) : ∀ k, k ≤ l.length → grpB l k ++ (grpF (decide (k = 0)) (l.drop k)).map (fun b => (b.toNat : Int)) = (grpF true l).map fun b => (b.toNat : Int)
  | 0, _ => by simp [grpB]
  | k + 1, h => by
    have ih := grpB_drop l k (by omega)
    rw [← ih]
    have hk : k < l.length := by omega
    have e : l.getD k 0 = l[k] := by simp [hk]
    have eg : grpB l (k + 1) = grpB l k ++ (if 0 < k ∧ (l.length - k) % 3 = 0 then [95, ((l.getD k 0).toNat : Int)] else [((l.getD k 0).toNat : Int)]) := rfl
    rw [grp_step hk, eg, e, List.append_assoc, List.map_append]
    have e2 : decide (k + 1 = 0) = false := by simp
    rw [e2]
    by_cases q : 0 < k ∧ (l.length - k) % 3 = 0
    · rw [if_pos q, if_pos ⟨by simp; omega, q.2⟩]
      rfl
    · rw [if_neg q, if_neg (fun x => q ⟨by have := x.1; simp at this; omega, x.2⟩)]
      rfl
theorem grpB_all (l : List UInt8) : grpB l l.length = (grpF true l).map fun b => (b.toNat : Int) := by
  have := grpB_drop l l.length (Nat.le_refl _)
  rw [List.drop_of_length_le (Nat.le_refl _), grp_nil] at this
  simpa using this
theorem str_of_bytes (L : List UInt8) : strOfNums (L.map fun b => (b.toNat : Int)) = ⟨L.toArray⟩ := by
  unfold strOfNums
  rw [List.map_map]
  have e : (L.map ((fun n : Int => UInt8.ofNat n.toNat) ∘ fun b : UInt8 => (b.toNat : Int))) = L := by
    conv => rhs; rw [← List.map_id L]
    apply List.map_congr_left
    intro b _
    simp
  rw [e]
def GrpH (w w1 : World) (l : List UInt8) (gk : Nat) (s4 s5 : Value) (wx : World) : Prop :=
  ∃ k : Nat, gk = l.length - k ∧ s5 = .int .i64 (k : Int) ∧ k ≤ l.length ∧ Byr w1.heap.size wx s4 (grpB l k) ∧ Below w.heap.size w wx ∧ w1.heap.size ≤ wx.heap.size
set_option maxRecDepth 100000 in
set_option maxHeartbeats 1600000 in
theorem rgrouped_any {w : World} {va : Value} {xs : List Int} (ha : Sl w.heap.size w va xs) (lx : xs.length ≤ 1048576) :
    Calls Tryz.prog 27 #[va] w fun e w' => e = .returned (.string ⟨(grpF true (txtL 10 (vn xs))).toArray⟩) ∧ Below w.heap.size w w' := by
  have HD := hid (rdec_any ha lx)
  have hz := txt_size (B := 10) (by omega) ha.1 lx
  have hne : txtL 10 (vn xs) ≠ [] := by
    by_cases h : vn xs = 0
    · rw [h]; simp [txtL]
    · exact txtL_ne (by omega) h
  obtain ⟨a, c, rfl⟩ : ∃ a c, va = .slice a xs.length c := by obtain ⟨_, a, c, e, _⟩ := ha; exact ⟨a, c, e⟩
  clear ha
  obtain ⟨l, hl⟩ : ∃ l, txtL 10 (vn xs) = l := ⟨_, rfl⟩
  have hs : txt 10 (vn xs) = ⟨l.toArray⟩ := by unfold txt; rw [hl]
  rw [hs] at HD hz
  rw [hl] at hne ⊢
  clear hl hs
  obtain ⟨s, hs⟩ : ∃ s, s = (⟨l.toArray⟩ : ByteArray) := ⟨_, rfl⟩
  obtain ⟨n, hn⟩ : ∃ n, l.length = n := ⟨_, rfl⟩
  have hsz : s.size = n := by rw [hs, mk_size, hn]
  have HBT : Hid (∀ i (h : i < l.length) (h' : i < s.size), s[i]'h' = l[i]) := by unfold Hid; subst hs; intro i h h'; rfl
  rw [← hs] at HD hz
  rw [hsz] at hz
  have HN := hid hn
  have HNE := hid hne
  clear hs hn hne
  go_enter Tryz.func27, Tryz.ntmps27
  go_wp2_with fail
  refine HD.out.mono ?_
  rintro e w1 ⟨rfl, k1⟩
  have H0 : Hid (GrpH w w1 l n (.slice none 0 0) (.int .i64 0) w1) := ⟨0, by rw [HN.out]; omega, rfl, Nat.zero_le _, Byr.nil _ _, k1, Nat.le_refl _⟩
  have K1 := hid k1
  clear k1 HD
  go_wp2_with fail
  go_loopg [4, 5] n (fun gk s4 s5 wx => GrpH w w1 l gk s4 s5 wx)
  case atStart => exact H0.out
  case round =>
    clear H0
    obtain ⟨k, hgk, rfl, hk, hby, hbl, hsw⟩ := hrel
    have HG := hid hgk
    have HBY := hid hby
    have HBL := hid hbl
    have HSW := hid hsw
    rw [HN.out] at hk
    clear hgk hby hbl hsw
    by_cases hlt : k < n
    · have hlt' : (k : Int) < (n : Int) := by omega
      have hks : k < s.size := by omega
      have HCH : Hid ((s[k]'hks).toNat = (l.getD k 0).toNat) := by
        unfold Hid
        have hkl : k < l.length := by rw [HN.out]; exact hlt
        rw [HBT.out k hkl hks]
        simp [hkl]
      have HGL : Hid ((grpB l k).length ≤ 200000000) := by unfold Hid; have := grpB_len l k; omega
      have hw3 : IntKind.i64.wrap ((k : Int) + 1) = ((k + 1 : Nat) : Int) := by rw [wrap_is] <;> omega
      have hw4 : IntKind.i64.wrap ((n : Int) - (k : Int)) = ((n - k : Nat) : Int) := by rw [wrap_is] <;> omega
      have HMM : Hid (n - (k + 1) < gk) := by unfold Hid; rw [HG.out, HN.out]; omega
      have HCC : Hid (∀ (W : World) (c : Int), (W.alloc (.cells #[.int .u8 c] 5)).cell? ⟨W.heap.size, 0, none⟩ = some (.int .u8 c)) := fun W c => by simp
      have HBQ : Hid (∀ (W : World) (c : Int), w1.heap.size ≤ W.heap.size → w1.heap.size ≤ (W.alloc (.cells #[.int .u8 c] 5)).heap.size) := fun W c h => Nat.le_trans h (alo4 W _).1.size
      have HB3 : Hid (∀ (W : World) (c : Int) w', Below w.heap.size w W → w1.heap.size ≤ W.heap.size → Below w1.heap.size (W.alloc (.cells #[.int .u8 c] 5)) w' → Below w.heap.size w w' ∧ w1.heap.size ≤ w'.heap.size) := fun W c w' h1 h2 h => by
        have q := (alo4 W (.cells #[.int .u8 c] 5)).1
        exact ⟨(below_step h1 q).trans (h.mono K1.out.size), Nat.le_trans (HBQ.out W c h2) h.size⟩
      have HB4 : Hid (∀ (W : World) (c : Int) v L, Byr w1.heap.size W v L → Byr w1.heap.size (W.alloc (.cells #[.int .u8 c] 5)) v L) := fun W c v L h => h.now (alo4 W _).1
      by_cases q : 0 < k ∧ (n - k) % 3 = 0
      · obtain ⟨hk0, hm3⟩ := q
        have hk0' : (0 : Int) < (k : Int) := by omega
        have hm3' : (((n - k : Nat) : Int) % 3 == 0) = true := by simp; omega
        have HGR : Hid (grpB l (k + 1) = grpB l k ++ [95, ((s[k]'hks).toNat : Int)]) := by
          unfold Hid
          show grpB l k ++ _ = _
          rw [HN.out, if_pos ⟨hk0, hm3⟩, HCH.out]
        have HL1 : Hid ((grpB l k).length ≤ 1000000000) := by have := HGL.out; unfold Hid; omega
        have HL2 : Hid ((grpB l k ++ [95]).length ≤ 1000000000) := by have := HGL.out; unfold Hid; rw [List.length_append]; simp; omega
        generalize grpB l k = GL at *
        clear hk0 hm3 HCH HG
        go_wp2_with (at_builtin; refine wpList_append_byr _ rfl (.tmp 24) (.tmp 25) rfl w1.heap.size _ GL 95 rfl (HB4.out _ _ _ _ HBY.out) wr.heap.size rfl (HCC.out _ _) HL1.out (HBQ.out _ _ HSW.out) ?_)
        intro m5 a5 cap5 w5 hm5 hby5 hbw5
        obtain ⟨hbl5, hsw5⟩ := HB3.out _ _ _ HBL.out HSW.out hbw5.out
        have BY5 := hid hby5.out
        have BL5 := hid hbl5
        have SW5 := hid hsw5
        clear hm5 hby5 hbw5 hbl5 hsw5 HBY HBL HSW
        go_wp2_with (at_builtin; refine wpList_append_byr _ rfl (.tmp 27) (.tmp 31) rfl w1.heap.size _ (GL ++ [95]) _ rfl (HB4.out _ _ _ _ BY5.out) w5.heap.size rfl (HCC.out _ _) HL2.out (HBQ.out _ _ SW5.out) ?_)
        intro m6 a6 cap6 w6 hm6 hby6 hbw6
        obtain ⟨hbl6, hsw6⟩ := HB3.out _ _ _ BL5.out SW5.out hbw6.out
        have HN1 : Hid (GrpH w w1 l (n - (k + 1)) (.slice a6 m6 cap6) (.int .i64 ((k + 1 : Nat) : Int)) w6) := ⟨k + 1, by rw [HN.out], rfl, by rw [HN.out]; omega, by rw [HGR.out]; exact hby6.out, hbl6, hsw6⟩
        clear hm6 hby6 hbw6 hbl6 hsw6 BY5 BL5 SW5 HB3 HB4 HCC HBQ HGR HL1 HL2
        go_wp2_with fail
        go_roundg (n - (k + 1))
        case rel => exact HN1.out
        case measure => exact HMM.out
      · have HGR : Hid (grpB l (k + 1) = grpB l k ++ [((s[k]'hks).toNat : Int)]) := by
          unfold Hid
          show grpB l k ++ _ = _
          rw [HN.out, if_neg q, HCH.out]
        have HL1 : Hid ((grpB l k).length ≤ 1000000000) := by have := HGL.out; unfold Hid; omega
        generalize grpB l k = GL at *
        clear HCH HG
        by_cases hk0 : k = 0
        · have hk0' : ¬ (0 : Int) < (k : Int) := by omega
          clear q hk0
          go_wp2_with (at_builtin; refine wpList_append_byr _ rfl (.tmp 27) (.tmp 31) rfl w1.heap.size _ GL _ rfl (HB4.out _ _ _ _ HBY.out) wr.heap.size rfl (HCC.out _ _) HL1.out (HBQ.out _ _ HSW.out) ?_)
          intro m6 a6 cap6 w6 hm6 hby6 hbw6
          obtain ⟨hbl6, hsw6⟩ := HB3.out _ _ _ HBL.out HSW.out hbw6.out
          have HN1 : Hid (GrpH w w1 l (n - (k + 1)) (.slice a6 m6 cap6) (.int .i64 ((k + 1 : Nat) : Int)) w6) := ⟨k + 1, by rw [HN.out], rfl, by rw [HN.out]; omega, by rw [HGR.out]; exact hby6.out, hbl6, hsw6⟩
          clear hm6 hby6 hbw6 hbl6 hsw6 HBY HBL HSW HB3 HB4 HCC HBQ HGR HL1
          go_wp2_with fail
          go_roundg (n - (k + 1))
          case rel => exact HN1.out
          case measure => exact HMM.out
        · have hk0' : (0 : Int) < (k : Int) := by omega
          have hm3' : (((n - k : Nat) : Int) % 3 == 0) = false := by simp; omega
          clear q
          go_wp2_with (at_builtin; refine wpList_append_byr _ rfl (.tmp 27) (.tmp 31) rfl w1.heap.size _ GL _ rfl (HB4.out _ _ _ _ HBY.out) wr.heap.size rfl (HCC.out _ _) HL1.out (HBQ.out _ _ HSW.out) ?_)
          intro m6 a6 cap6 w6 hm6 hby6 hbw6
          obtain ⟨hbl6, hsw6⟩ := HB3.out _ _ _ HBL.out HSW.out hbw6.out
          have HN1 : Hid (GrpH w w1 l (n - (k + 1)) (.slice a6 m6 cap6) (.int .i64 ((k + 1 : Nat) : Int)) w6) := ⟨k + 1, by rw [HN.out], rfl, by rw [HN.out]; omega, by rw [HGR.out]; exact hby6.out, hbl6, hsw6⟩
          clear hm6 hby6 hbw6 hbl6 hsw6 HBY HBL HSW HB3 HB4 HCC HBQ HGR HL1
          go_wp2_with fail
          go_roundg (n - (k + 1))
          case rel => exact HN1.out
          case measure => exact HMM.out
    · have hlt' : ¬ (k : Int) < (n : Int) := by omega
      obtain rfl : k = n := by omega
      have hga : grpB l k = (grpF true l).map fun b => (b.toNat : Int) := by rw [← HN.out]; exact grpB_all l
      obtain ⟨a9, cap9, e9⟩ := HBY.out.form
      rw [hga] at HBY e9
      subst e9
      have hpos : 0 < ((grpF true l).map fun b => (b.toNat : Int)).length := by
        cases l with
        | nil => exact absurd rfl HNE.out
        | cons x r => simp [grpF]
      obtain ⟨g9, rfl, -, -, -, hc9⟩ := HBY.out.cells hpos
      obtain ⟨nL, hnL⟩ : ∃ nL, ((grpF true l).map fun b => (b.toNat : Int)).length = nL := ⟨_, rfl⟩
      have hcv := run_convert_bytes_arg (P := Tryz.prog) wr 51 5 Tryz.underlying51 Tryz.underlying5 g9 0 nL cap9 ((grpF true l).map fun b => (b.toNat : Int)) hnL (fun i hi => by rw [Nat.zero_add]; exact hc9 i (by rw [hnL]; exact hi)) 9 Tryz.underlying9
      rw [str_of_bytes] at hcv
      rw [hnL]
      clear hc9 hpos hnL HBY hga HG HSW
      go_wp2
      go_ret
      exact ⟨rfl, HBL.out⟩
end Go.Proofs.YtiiemeigbnnlpaaGreatDoor
