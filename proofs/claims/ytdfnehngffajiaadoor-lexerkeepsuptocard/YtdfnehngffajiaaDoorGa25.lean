/-
  Ga25: what a grouped number is, for the program and for the reference.
-/
import Derived.Test.YtdfnehngffajiaaDoorRp25
import Derived.Test.YtdfnehngffajiaaDoorTp25
import Derived.Test.YtdfnehngffajiaaDoorCp25
import Derived.Test.YtdfnehngffajiaaDoorTo25
namespace Go.Proofs.YtdfnehngffajiaaDoor
open Go.RowKit
set_option linter.unusedVariables false

theorem chS_one {s : ByteArray} {i : Nat} (hi : i < s.size) (hc : (chS s i).2 ≠ 0) (h : (chS s i).1 < 128) : chS s i = (byS s i, 1) := by
  rcases chS_form hi with q | ⟨q1, q2, q3, q4, q5, q6⟩
  · rw [q] at hc; exact absurd rfl hc
  · unfold offS at q6
    rcases nxS_cases (byS s i) with ⟨z, w⟩ | ⟨z, z', w⟩ | ⟨z, z', w⟩ | ⟨z, z', w⟩ | ⟨z, w⟩
    · rw [w] at q4 q5
      have a1 : acS s i 1 = (nxS (byS s i)).2.1 := rfl
      rw [w] at a1
      dsimp only at q4 q5 a1
      exact Prod.ext (by show (chS s i).1 = byS s i; omega) q5
    · rw [w] at q4 q6; dsimp only at q4 q6; omega
    · rw [w] at q4 q6; dsimp only at q4 q6; omega
    · rw [w] at q4 q6; dsimp only at q4 q6; omega
    · rw [w] at q1; exact absurd rfl q1
theorem run_bytes {s : ByteArray} {b j : Nat} (hg : gdS s b j) (ho : ∀ i, i < j → okC true (chS s (ps s b i)).1 = true) : ∀ i, i ≤ j → ps s b i = b + i ∧ ∀ k, k < i → b + k < s.size ∧ (48 ≤ byS s (b + k) ∧ byS s (b + k) ≤ 57 ∨ byS s (b + k) = 95)
  | 0, _ => ⟨rfl, fun k h => absurd h (Nat.not_lt_zero _)⟩
  | i + 1, hi => by
    obtain ⟨h1, h2⟩ := run_bytes hg ho i (by omega)
    obtain ⟨g1, g2⟩ := hg i (by omega)
    have g3 := ho i (by omega)
    rw [h1] at g1 g2 g3
    have g4 : 48 ≤ (chS s (b + i)).1 ∧ (chS s (b + i)).1 ≤ 57 ∨ (chS s (b + i)).1 = 95 := by
      simp only [okC, digS, Bool.or_eq_true, decide_eq_true_eq, beq_iff_eq, Bool.not_true, Bool.false_and, Bool.false_eq_true, or_false] at g3
      exact g3
    have e := chS_one g1 g2 (by omega)
    refine ⟨?_, fun k hk => ?_⟩
    · show ps s b i + (chS s (ps s b i)).2 = _
      rw [h1, e]; show b + i + 1 = _; omega
    · by_cases q : k = i
      · subst q
        rw [e] at g4
        exact ⟨g1, g4⟩
      · exact h2 k (by omega)
open Classical in
/-- A number's error, by the reference. -/
noncomputable def gR (x : ByteArray) : Int := if R4.RefOk x.data.toList ∧ (x.data.toList.filter R4.dig ≠ [] ∧ R4.Good 10 (x.data.toList.filter R4.dig)) then 0 else 7
theorem len_size (x : ByteArray) : x.data.toList.length = x.size := by rw [Array.length_toList]; rfl
theorem dig_no {c : UInt8} (h : R4.dig c = true) : c ≠ 95 := fun e => by subst e; exact absurd h (by decide)
theorem dig_low {c : UInt8} (h : R4.dig c = true) : R4.dv c.toNat < 10 := by
  have h := R4.dig_iff.1 h
  have e : R4.dv c.toNat = c.toNat - 48 := by unfold R4.dv; rw [if_pos h]
  omega
theorem two_at {l : List UInt8} : ([95, 95] : List UInt8).isPrefixOf l = true ↔ ∃ t, l = 95 :: 95 :: t := by
  rw [List.isPrefixOf_iff_prefix]
  exact ⟨fun ⟨t, h⟩ => ⟨t, h.symm⟩, fun ⟨t, h⟩ => ⟨t, h.symm⟩⟩
theorem mk_self (x : ByteArray) : (⟨x.data.toList.toArray⟩ : ByteArray) = x := by cases x; simp
theorem grC_own {s : ByteArray} (hs : s.size ≤ 1048576) : GrC s gR := fun i j w => by
  have hl : (s.extract i j).data.toList.length ≤ 1048576 := by
    have : (s.extract i j).size ≤ s.size := by rw [ByteArray.size_extract]; omega
    have e : (s.extract i j).data.toList.length = (s.extract i j).size := len_size _
    omega
  have h := R4.rreadGrouped_any (w := w) hl
  rw [mk_self] at h
  refine h.mono fun e w' q => ?_
  unfold gR
  rcases q with ⟨q1, ⟨q2, zs, a, c, q3, _, _, _, q4⟩ | ⟨q2, q3, q4⟩⟩ | ⟨q1, q2, q3⟩
  · rw [if_pos ⟨q1, q2⟩]; exact ⟨_, q3, q4⟩
  · rw [if_neg fun x => q2 x.2]; exact ⟨_, q3, q4⟩
  · rw [if_neg fun x => q1 x.1]; exact ⟨_, q2, q3⟩
theorem byS_get {s : ByteArray} {i : Nat} (h : i < s.size) : (s.data.toList[i]'(by simpa using h)).toNat = byS s i := by
  have := byS_at h
  have e : s.data.toList[i]'(by simpa using h) = s[i]'h := by rw [Array.getElem_toList]; rfl
  rw [e]; omega
/-- What holds in a list of digits and marks, the first a digit: the reference's look and the program's are one. -/
theorem ok_both {L : List UInt8} (h0 : 0 < L.length) (hd : R4.dig (L[0]'h0) = true) (ha : ∀ i (h : i < L.length), R4.dig L[i] = true ∨ L[i] = 95) : R4.RefOk L ↔ (Lib.hasSuffix L [95] || Lib.contains L [95, 95]) = false := by
  have hsuf : Lib.hasSuffix L [95] = true ↔ L[L.length - 1]'(by omega) = 95 := by
    rw [← Lib.hasSuffix_of_drop]
    have e : L.drop (L.length - ([95] : List UInt8).length) = [L[L.length - 1]'(by omega)] := by
      show L.drop (L.length - 1) = _
      rw [List.drop_eq_getElem_cons (by omega), show L.length - 1 + 1 = L.length by omega, List.drop_length]
    rw [e, Bool.and_eq_true, decide_eq_true_eq, beq_iff_eq]
    exact ⟨fun h => (List.cons.inj h.2).1, fun h => ⟨h0, by rw [h]⟩⟩
  have hocc : ∀ j, Lib.occAt L [95, 95] j = true ↔ ∃ (h : j + 1 < L.length), L[j] = 95 ∧ L[j + 1] = 95 := by
    intro j
    unfold Lib.occAt
    rw [two_at]
    constructor
    · rintro ⟨t, h⟩
      have hl := congrArg List.length h
      rw [List.length_drop] at hl
      simp only [List.length_cons] at hl
      have h1 : j + 1 < L.length := by omega
      rw [List.drop_eq_getElem_cons (by omega), List.drop_eq_getElem_cons h1] at h
      obtain ⟨e1, e2⟩ := List.cons.inj h
      exact ⟨h1, e1, (List.cons.inj e2).1⟩
    · rintro ⟨h1, e1, e2⟩
      exact ⟨_, by rw [List.drop_eq_getElem_cons (by omega), List.drop_eq_getElem_cons h1, e1, e2]⟩
  have hcon : Lib.contains L [95, 95] = true ↔ ∃ j, ∃ (h : j + 1 < L.length), L[j] = 95 ∧ L[j + 1] = 95 := by
    unfold Lib.contains
    rcases Lib.index_spec L [95, 95] with ⟨q1, q2⟩ | ⟨i, q1, q2, q3, _⟩
    · rw [q1]
      simp only [decide_eq_true_eq]
      refine ⟨fun h => absurd h (by omega), fun ⟨j, hj, x⟩ => ?_⟩
      have := q2 j (by omega)
      rw [(hocc j).2 ⟨hj, x⟩] at this
      cases this
    · rw [q1]
      simp only [decide_eq_true_eq]
      exact ⟨fun _ => ⟨i, (hocc i).1 q3⟩, fun _ => by omega⟩
  rw [Bool.or_eq_false_iff, Bool.eq_false_iff, Bool.eq_false_iff, Ne, Ne, hsuf, hcon]
  constructor
  · intro hr
    refine ⟨fun e => ?_, fun ⟨j, hj, e1, e2⟩ => ?_⟩
    · obtain ⟨_, q | ⟨_, _, q, _⟩⟩ := hr (L.length - 1) (by omega)
      · exact dig_no q e
      · omega
    · obtain ⟨_, q | ⟨_, _, q, _, q2⟩⟩ := hr j (by omega)
      · exact dig_no q e1
      · exact q2 e2
  · rintro ⟨h1, h2⟩ i hi
    refine ⟨hi, ?_⟩
    rcases ha i hi with q | q
    · exact .inl q
    · refine .inr ⟨q, ?_, ?_⟩
      · rcases Nat.eq_zero_or_pos i with z | z
        · subst z; exact absurd q (dig_no hd)
        · exact z
      · have hi1 : i + 1 < L.length := by
          rcases Nat.lt_or_ge (i + 1) L.length with z | z
          · exact z
          · have hq : ∀ k (hk : k < L.length), k = i → L[k] = 95 := fun k hk e => by subst e; exact q
            exact absurd (hq (L.length - 1) (by omega) (by omega)) h1
        have hi0 : 0 < i := by
          rcases Nat.eq_zero_or_pos i with z | z
          · subst z; exact absurd q (dig_no hd)
          · exact z
        refine ⟨hi1, fun e => h2 ⟨i - 1, by omega, e, ?_⟩, fun e => h2 ⟨i, hi1, q, e⟩⟩
        have hq : ∀ k (hk : k < L.length), k = i → L[k] = 95 := fun k hk e => by subst e; exact q
        exact hq _ _ (by omega)
theorem grP_ref (s : ByteArray) : GrP s gR := fun b j hb hj hr hd => by
  obtain ⟨hg, ho, _⟩ := hr
  obtain ⟨hp, hby⟩ := run_bytes hg ho j (Nat.le_refl _)
  obtain ⟨x, hx⟩ : ∃ x, s.extract b (ps s b j) = x := ⟨_, rfl⟩
  rw [hx]
  have hpj : b + j ≤ s.size := by have := (hby (j - 1) (by omega)).1; omega
  have hsz : x.data.toList.length = j := by
    rw [len_size, ← hx, hp, ByteArray.size_extract]; omega
  have hat : ∀ i (h : i < x.data.toList.length), (x.data.toList[i]).toNat = byS s (b + i) := fun i h => by
    have hi : i < x.size := by rw [← len_size]; exact h
    rw [byS_get hi]
    subst hx
    have h1 := byS_at hi
    have h2 := byS_at (s := s) (i := b + i) (by omega)
    rw [ByteArray.getElem_extract] at h1
    omega
  have hall : ∀ i (h : i < x.data.toList.length), R4.dig x.data.toList[i] = true ∨ x.data.toList[i] = 95 := fun i h => by
    have q := (hby i (by omega)).2
    rw [← hat i h] at q
    rcases q with q | q
    · exact .inl (R4.dig_iff.2 q)
    · exact .inr (UInt8.toNat_inj.1 q)
  have h0 : 0 < x.data.toList.length := by omega
  have hd0 : R4.dig (x.data.toList[0]'h0) = true := by
    have e := hat 0 h0
    have g0 := hg 0 (by omega)
    have hd' : 48 ≤ (chS s b).1 ∧ (chS s b).1 ≤ 57 := by simpa [digS] using hd
    have this : chS s b = (byS s b, 1) := chS_one g0.1 g0.2 (by omega)
    rw [this] at hd'
    exact R4.dig_iff.2 (by rw [e]; exact hd')
  have hne : x.data.toList.filter R4.dig ≠ [] := by
    intro q
    have : x.data.toList[0]'h0 ∈ x.data.toList.filter R4.dig := List.mem_filter.2 ⟨List.getElem_mem _, hd0⟩
    rw [q] at this
    cases this
  have hgood : R4.Good 10 (x.data.toList.filter R4.dig) := fun c hc => dig_low (List.mem_filter.1 hc).2
  have hb := ok_both h0 hd0 hall
  unfold gR okN
  by_cases q : R4.RefOk x.data.toList
  · rw [if_pos ⟨q, hne, hgood⟩, hb.1 q]; simp
  · rw [if_neg fun z => q z.1]
    rw [hb, Bool.not_eq_false] at q
    rw [q]; simp
end Go.Proofs.YtdfnehngffajiaaDoor
