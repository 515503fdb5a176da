/-
  RGP4: grouped texts by their bytes (the document) and by their runes (the program): one answer.
-/
import Derived.Test.YtiiemeigbnnlpaaGreatDoorQBackPureToGroupsPure
namespace Go.Proofs.YtiiemeigbnnlpaaGreatDoor
open Go.RowKit
set_option linter.unusedVariables false

def dig (c : UInt8) : Bool := decide (48 ≤ c.toNat) && decide (c.toNat ≤ 57)
theorem dig_iff {c : UInt8} : dig c = true ↔ 48 ≤ c.toNat ∧ c.toNat ≤ 57 := by simp [dig]
theorem dig_dv {c : UInt8} : dig c = true ↔ dv c.toNat < 10 := by
  rw [dig_iff]
  unfold dv
  constructor
  · intro h; rw [if_pos h]; omega
  · intro h
    split at h
    · assumption
    · split at h
      · omega
      · split at h <;> omega
theorem dig_mark {c : UInt8} (h : dig c = true) : c ≠ 95 := fun e => by subst e; exact absurd h (by decide)
/-- A byte in its place. -/
def OkAt (L : List UInt8) (i : Nat) : Prop := ∃ h : i < L.length, dig L[i] = true ∨ (L[i] = 95 ∧ 0 < i ∧ ∃ h2 : i + 1 < L.length, L[i - 1] ≠ 95 ∧ L[i + 1] ≠ 95)
def RefOk (L : List UInt8) : Prop := ∀ i, i < L.length → OkAt L i
theorem ref_yes {L : List UInt8} (h : RefOk L) (h0 : L ≠ []) : ug ⟨L.toArray⟩ (⟨L.toArray⟩ : ByteArray).size 0 true = some (L.filter dig) ∧ (L.filter dig ≠ [] ∧ Good 10 (L.filter dig)) := by
  have hE : ∀ c ∈ L, dig c = true ∨ c = 95 := fun c hc => by
    obtain ⟨i, hi, rfl⟩ := List.getElem_of_mem hc
    obtain ⟨_, q | q⟩ := h i hi
    · exact .inl q
    · exact .inr q.1
  have hA : ∀ c ∈ L, c.toNat < 128 := fun c hc => by
    rcases hE c hc with q | q
    · have := dig_iff.1 q; omega
    · subst q; decide
  have hpos : 0 < L.length := List.length_pos_iff.2 h0
  have hL : Lone L := fun j hj ⟨e1, e2⟩ => by
    obtain ⟨_, q | ⟨_, _, _, _, q⟩⟩ := h j (by omega)
    · exact dig_mark q e1
    · exact q e2
  have hfirst : ∃ c r, L = c :: r ∧ dig c = true := by
    cases L with
    | nil => exact absurd rfl h0
    | cons c r =>
      obtain ⟨_, q | ⟨_, q, _⟩⟩ := h 0 hpos
      · exact ⟨c, r, rfl, q⟩
      · exact absurd q (Nat.lt_irrefl 0)
  have hlast : ∀ h : L ≠ [], L.getLast h ≠ 95 := fun hn e => by
    rw [List.getLast_eq_getElem] at e
    obtain ⟨_, q | ⟨_, _, q, _⟩⟩ := h (L.length - 1) (by omega)
    · exact dig_mark q e
    · omega
  have hf : L.filter (· != 95) = L.filter dig := List.filter_congr fun c hc => by
    rcases hE c hc with q | q
    · rw [q]; simpa using dig_mark q
    · subst q; decide
  refine ⟨?_, ?_, fun b hb => dig_dv.1 (List.mem_filter.1 hb).2⟩
  · rw [ug_ascii hA _ 0 true (by rw [mk_size]; omega), List.drop_zero, ugL_lone L true hL (fun _ => by obtain ⟨c, r, e, q⟩ := hfirst; exact ⟨c, r, e, dig_mark q⟩) hlast, hf]
  · obtain ⟨c, r, e, q⟩ := hfirst
    intro hn
    have : c ∈ L.filter dig := List.mem_filter.2 ⟨by rw [e]; simp, q⟩
    rw [hn] at this
    exact absurd this (by simp)
theorem ugL_mem : ∀ (W : List UInt8) (m : Bool) (X : List UInt8), ugL W m = some X → ∀ c ∈ W, c = 95 ∨ c ∈ X
  | [], m, X, _, c, hc => by simp at hc
  | d :: r, m, X, h, c, hc => by
    unfold ugL at h
    split at h
    · rename_i hd
      split at h
      · cases h
      · rcases List.mem_cons.1 hc with e | e
        · exact .inl (e.trans hd)
        · exact ugL_mem r true X h c e
    · cases hr : ugL r false with
      | none => rw [hr] at h; cases h
      | some Y =>
        rw [hr] at h
        obtain rfl : d :: Y = X := Option.some.inj h
        rcases List.mem_cons.1 hc with e | e
        · exact .inr (by rw [e]; simp)
        · rcases ugL_mem r false Y hr c e with q | q
          · exact .inl q
          · exact .inr (by simp [q])
theorem enc_high {r : Int} (h : 128 ≤ r) : ∃ c t, Lib.encodeRune r = c :: t ∧ 128 ≤ c.toNat := by
  have key : ∀ (x : Int) (t : List Int), 128 ≤ x → x < 256 → Lib.encodeRuneZ r = x :: t → ∃ c t, Lib.encodeRune r = c :: t ∧ 128 ≤ c.toNat := fun x t h1 h2 e => by
    refine ⟨x.toNat.toUInt8, t.map fun x => x.toNat.toUInt8, by unfold Lib.encodeRune; rw [e]; rfl, ?_⟩
    have : x.toNat.toUInt8.toNat = x.toNat := by simp [UInt8.toNat_ofNat']; omega
    omega
  by_cases h1 : r ≤ 2047
  · exact key _ _ (by omega) (by omega) (Lib.encodeRuneZ_two h h1)
  · by_cases h2 : r ≤ 65535
    · by_cases h3 : r < 55296 ∨ 57343 < r
      · exact key _ _ (by omega) (by omega) (Lib.encodeRuneZ_three (by omega))
      · exact key _ _ (by omega) (by omega) (Lib.encodeRuneZ_bad (by omega))
    · by_cases h3 : r ≤ 1114111
      · exact key _ _ (by omega) (by omega) (Lib.encodeRuneZ_four (by omega) h3)
      · exact key _ _ (by omega) (by omega) (Lib.encodeRuneZ_bad (by omega))
theorem ug_high {s : ByteArray} : ∀ (f pos : Nat) (m : Bool), s.size ≤ pos + f → (∃ j, ∃ h : j < s.size, pos ≤ j ∧ 128 ≤ (s[j]'h).toNat) → ∀ l', ug s f pos m = some l' → ¬ Good 10 l'
  | 0, pos, m, hf, ⟨j, h, hp, _⟩, l', _ => by omega
  | f + 1, pos, m, hf, ⟨j, hj, hp, hh⟩, l', he => by
    have hps : pos < s.size := by omega
    rw [ug, if_pos hps] at he
    by_cases hc : (s[pos]'hps).toNat < 128
    · have hd : Utf8.decode s pos = ((s[pos]'hps).toNat, 1) := decode_ascii s pos hps hc
      have hne : pos ≠ j := fun e => by subst e; omega
      rw [hd] at he
      dsimp only at he
      split at he
      · split at he
        · cases he
        · exact ug_high f (pos + 1) true (by omega) ⟨j, hj, by omega, hh⟩ l' he
      · cases hr : ug s f (pos + 1) false with
        | none => rw [hr] at he; cases he
        | some Y =>
          rw [hr] at he
          have ih := ug_high f (pos + 1) false (by omega) ⟨j, hj, by omega, hh⟩ Y hr
          have e : Lib.encodeRune ((s[pos]'hps).toNat : Int) ++ Y = l' := Option.some.inj he
          intro g
          exact ih fun b hb => g b (by rw [← e]; simp [hb])
    · obtain ⟨h1, h2⟩ := decode_high s pos hps (by omega)
      rw [if_neg (by omega)] at he
      cases hr : ug s f (pos + (Utf8.decode s pos).2) false with
      | none => rw [hr] at he; cases he
      | some Y =>
        rw [hr] at he
        have e : Lib.encodeRune ((Utf8.decode s pos).1 : Int) ++ Y = l' := Option.some.inj he
        obtain ⟨c, t, e2, hc2⟩ := enc_high (r := ((Utf8.decode s pos).1 : Int)) (by omega)
        intro g
        have q := g c (by rw [← e, e2]; simp)
        have := dig_iff.1 (dig_dv.2 q)
        omega
theorem ref_no {L : List UInt8} (h : ¬ RefOk L) : ∀ l', ug ⟨L.toArray⟩ (⟨L.toArray⟩ : ByteArray).size 0 true = some l' → ¬ (l' ≠ [] ∧ Good 10 l') := by
  intro l' he ⟨hn, hg⟩
  apply h
  have hA : ∀ c ∈ L, c.toNat < 128 := fun c hc => by
    apply Classical.byContradiction
    intro q
    obtain ⟨j, hj, rfl⟩ := List.getElem_of_mem hc
    exact ug_high _ 0 true (by omega) ⟨j, by rw [mk_size]; exact hj, Nat.zero_le _, by have e : (⟨L.toArray⟩ : ByteArray)[j]'(by rw [mk_size]; exact hj) = L[j] := rfl; rw [e]; omega⟩ l' he hg
  rw [ug_ascii hA _ 0 true (by rw [mk_size]; omega), List.drop_zero] at he
  have hL : Lone L := Classical.byContradiction fun q => by rw [ugL_twice L true q] at he; cases he
  have hmem := ugL_mem L true l' he
  intro i hi
  refine ⟨hi, ?_⟩
  rcases hmem L[i] (List.getElem_mem hi) with q | q
  · right
    have h0 : 0 < i := by
      rcases Nat.eq_zero_or_pos i with e | e
      · subst e
        cases L with
        | nil => simp at hi
        | cons c r =>
          have q' : c = 95 := q
          rw [q', ugL_ahead] at he
          cases he
      · exact e
    have h1 : i + 1 < L.length := by
      apply Classical.byContradiction
      intro q1
      have e : L = L.take i ++ [95] := by
        have := List.take_append_drop i L
        rw [List.drop_eq_getElem_cons hi, q, List.drop_of_length_le (by omega)] at this
        exact this.symm
      rw [e, ugL_behind] at he
      cases he
    refine ⟨q, h0, h1, fun e => ?_, fun e => hL i h1 ⟨q, e⟩⟩
    have := hL (i - 1) (by omega)
    apply this
    refine ⟨e, ?_⟩
    have e2 : i - 1 + 1 = i := by omega
    simp only [e2]
    exact q
  · exact .inl (dig_dv.2 (hg _ q))
end Go.Proofs.YtiiemeigbnnlpaaGreatDoor
