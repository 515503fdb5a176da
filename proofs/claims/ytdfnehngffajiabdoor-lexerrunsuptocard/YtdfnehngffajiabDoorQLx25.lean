/-
  Lx25: characters of a text, in numbers; the reference's next and Char.
-/
import Derived.Test.YtdfnehngffajiabDoorQBaseToSt25
namespace Go.Proofs.YtdfnehngffajiabDoor
open Go.RowKit
set_option linter.unusedVariables false

/-- The character that begins at a place, and its bytes; (0, 0): none does. -/
def chS (s : ByteArray) (i : Nat) : Nat × Nat := if (Utf8.decode s i).2 = 1 ∧ (Utf8.decode s i).1 = 65533 then (0, 0) else Utf8.decode s i
/-- The byte at a place, as a number. -/
def byS (s : ByteArray) (i : Nat) : Nat := (s.get! i).toNat
theorem byS_at {s : ByteArray} {i : Nat} (h : i < s.size) : ((s[i]'h).toNat : Int) = (byS s i : Int) := by
  unfold byS
  have : s.get! i = s[i]'h := by
    show s.data[i]! = s.data[i]'h
    exact getElem!_pos s.data i h
  rw [this]
theorem byS_lt (s : ByteArray) (i : Nat) : byS s i < 256 := UInt8.toNat_lt _
/-- A byte that is a later one of a character. -/
def conS (s : ByteArray) (i : Nat) : Prop := 128 ≤ byS s i ∧ byS s i < 192
/-- What next answers of a leading byte. -/
def nxS (c : Nat) : Nat × Int × Int := if c < 128 then (1, (c : Int), 0) else if 192 ≤ c ∧ c < 224 then (2, (c : Int) - 192, 128) else if 224 ≤ c ∧ c < 240 then (3, (c : Int) - 224, 2048) else if 240 ≤ c ∧ c < 248 then (4, (c : Int) - 240, 65536) else (0, 0, 0)
/-- The bits so far, behind k bytes. -/
def acS (s : ByteArray) (i : Nat) : Nat → Int
  | 0 => 0
  | 1 => (nxS (byS s i)).2.1
  | k + 2 => 64 * acS s i (k + 1) + (byS s (i + (k + 1)) : Int) - 128
theorem nxS_cases (c : Nat) : (c < 128 ∧ nxS c = (1, (c : Int), 0)) ∨ (192 ≤ c ∧ c < 224 ∧ nxS c = (2, (c : Int) - 192, 128)) ∨ (224 ≤ c ∧ c < 240 ∧ nxS c = (3, (c : Int) - 224, 2048)) ∨ (240 ≤ c ∧ c < 248 ∧ nxS c = (4, (c : Int) - 240, 65536)) ∨ (((128 ≤ c ∧ c < 192) ∨ 248 ≤ c) ∧ nxS c = (0, 0, 0)) := by
  unfold nxS
  by_cases h1 : c < 128
  · rw [if_pos h1]; exact .inl ⟨h1, rfl⟩
  rw [if_neg h1]
  by_cases h2 : 192 ≤ c ∧ c < 224
  · rw [if_pos h2]; exact .inr (.inl ⟨h2.1, h2.2, rfl⟩)
  rw [if_neg h2]
  by_cases h3 : 224 ≤ c ∧ c < 240
  · rw [if_pos h3]; exact .inr (.inr (.inl ⟨h3.1, h3.2, rfl⟩))
  rw [if_neg h3]
  by_cases h4 : 240 ≤ c ∧ c < 248
  · rw [if_pos h4]; exact .inr (.inr (.inr (.inl ⟨h4.1, h4.2, rfl⟩)))
  rw [if_neg h4]
  exact .inr (.inr (.inr (.inr ⟨by omega, rfl⟩)))
theorem acS_bd {s : ByteArray} {i : Nat} (hz : (nxS (byS s i)).1 ≠ 0) : ∀ k, (∀ j, 1 ≤ j → j ≤ k → conS s (i + j)) → 0 ≤ acS s i (k + 1) ∧ acS s i (k + 1) < 128 * 64 ^ k
  | 0, _ => by
    have e : acS s i 1 = (nxS (byS s i)).2.1 := rfl
    rw [e]
    rcases nxS_cases (byS s i) with ⟨h, e⟩ | ⟨h, h', e⟩ | ⟨h, h', e⟩ | ⟨h, h', e⟩ | ⟨h, e⟩ <;> rw [e] at hz ⊢ <;> simp at hz ⊢ <;> omega
  | k + 1, hc => by
    have h1 := acS_bd hz k (fun j h1 h2 => hc j h1 (by omega))
    have h2 := hc (k + 1) (by omega) (by omega)
    have e : acS s i (k + 1 + 1) = 64 * acS s i (k + 1) + (byS s (i + (k + 1)) : Int) - 128 := rfl
    unfold conS at h2
    rw [e, Int.pow_succ]
    omega
/-- decode, in these words. -/
theorem dec_eq (s : ByteArray) (i : Nat) : Utf8.decode s i =
    if byS s i < 128 then (byS s i, 1)
    else if byS s i / 32 = 6 ∧ (i + 1 < s.size ∧ byS s (i + 1) / 64 = 2) then
      (if 128 ≤ byS s i % 32 * 64 + byS s (i + 1) % 64 then (byS s i % 32 * 64 + byS s (i + 1) % 64, 2) else (65533, 1))
    else if byS s i / 16 = 14 ∧ (i + 1 < s.size ∧ byS s (i + 1) / 64 = 2) ∧ (i + 2 < s.size ∧ byS s (i + 2) / 64 = 2) then
      (if 2048 ≤ byS s i % 16 * 4096 + byS s (i + 1) % 64 * 64 + byS s (i + 2) % 64 ∧ Utf8.valid ((byS s i % 16 * 4096 + byS s (i + 1) % 64 * 64 + byS s (i + 2) % 64 : Nat) : Int) = true then (byS s i % 16 * 4096 + byS s (i + 1) % 64 * 64 + byS s (i + 2) % 64, 3) else (65533, 1))
    else if byS s i / 8 = 30 ∧ (i + 1 < s.size ∧ byS s (i + 1) / 64 = 2) ∧ (i + 2 < s.size ∧ byS s (i + 2) / 64 = 2) ∧ (i + 3 < s.size ∧ byS s (i + 3) / 64 = 2) then
      (if 65536 ≤ byS s i % 8 * 262144 + byS s (i + 1) % 64 * 4096 + byS s (i + 2) % 64 * 64 + byS s (i + 3) % 64 ∧ Utf8.valid ((byS s i % 8 * 262144 + byS s (i + 1) % 64 * 4096 + byS s (i + 2) % 64 * 64 + byS s (i + 3) % 64 : Nat) : Int) = true then (byS s i % 8 * 262144 + byS s (i + 1) % 64 * 4096 + byS s (i + 2) % 64 * 64 + byS s (i + 3) % 64, 4) else (65533, 1))
    else (65533, 1) := by
  unfold Utf8.decode byS Utf8.runeError
  simp only [Nat.add_zero, Bool.and_eq_true, beq_iff_eq, decide_eq_true_eq, ge_iff_le, and_assoc]
theorem valid_iff (c : Nat) : Utf8.valid (c : Int) = true ↔ c < 55296 ∨ (57344 ≤ c ∧ c ≤ 1114111) := by
  unfold Utf8.valid
  simp only [Bool.or_eq_true, Bool.and_eq_true, decide_eq_true_eq]
  omega
theorem chS_none {s : ByteArray} {i : Nat} (h : (nxS (byS s i)).1 = 0 ∨ s.size < i + (nxS (byS s i)).1 ∨ ∃ k, 1 ≤ k ∧ k < (nxS (byS s i)).1 ∧ ¬ conS s (i + k)) (hi : i < s.size) : chS s i = (0, 0) := by
  have key : Utf8.decode s i = (65533, 1) := by
    rw [dec_eq]
    rcases nxS_cases (byS s i) with ⟨q, e⟩ | ⟨q, q', e⟩ | ⟨q, q', e⟩ | ⟨q, q', e⟩ | ⟨q, e⟩ <;> rw [e] at h <;> simp only at h
    · exfalso
      rcases h with h | h | ⟨k, h1, h2, _⟩ <;> omega
    · rw [if_neg (by omega), if_neg ?_, if_neg (by omega), if_neg (by omega)]
      rintro ⟨_, h1, h2⟩
      rcases h with h | h | ⟨k, k1, k2, k3⟩
      · omega
      · omega
      · obtain rfl : k = 1 := by omega
        exact k3 ⟨by omega, by omega⟩
    · rw [if_neg (by omega), if_neg (by omega), if_neg ?_, if_neg (by omega)]
      rintro ⟨_, ⟨h1, h2⟩, h3, h4⟩
      rcases h with h | h | ⟨k, k1, k2, k3⟩
      · omega
      · omega
      · obtain rfl | rfl : k = 1 ∨ k = 2 := by omega
        · exact k3 ⟨by omega, by omega⟩
        · exact k3 ⟨by omega, by omega⟩
    · rw [if_neg (by omega), if_neg (by omega), if_neg (by omega), if_neg ?_]
      rintro ⟨_, ⟨h1, h2⟩, ⟨h3, h4⟩, h5, h6⟩
      rcases h with h | h | ⟨k, k1, k2, k3⟩
      · omega
      · omega
      · obtain rfl | rfl | rfl : k = 1 ∨ k = 2 ∨ k = 3 := by omega
        · exact k3 ⟨by omega, by omega⟩
        · exact k3 ⟨by omega, by omega⟩
        · exact k3 ⟨by omega, by omega⟩
    · rw [if_neg (by omega), if_neg (by omega), if_neg (by omega), if_neg (by omega)]
  unfold chS
  rw [key]
  rfl
/-- A value that a character may not have. -/
def offS (v least : Int) : Prop := v < least ∨ 1114111 < v ∨ (55296 ≤ v ∧ v ≤ 57343)
theorem chS_some {s : ByteArray} {i : Nat} (h0 : (nxS (byS s i)).1 ≠ 0) (h1 : i + (nxS (byS s i)).1 ≤ s.size) (h2 : ∀ k, 1 ≤ k → k < (nxS (byS s i)).1 → conS s (i + k)) :
    (offS (acS s i (nxS (byS s i)).1) (nxS (byS s i)).2.2 → chS s i = (0, 0)) ∧ (¬ offS (acS s i (nxS (byS s i)).1) (nxS (byS s i)).2.2 → acS s i (nxS (byS s i)).1 = ((chS s i).1 : Int) ∧ (chS s i).2 = (nxS (byS s i)).1) := by
  have hb := byS_lt s i
  have a1 : acS s i 1 = (nxS (byS s i)).2.1 := rfl
  have a2 : acS s i 2 = 64 * acS s i 1 + (byS s (i + 1) : Int) - 128 := rfl
  have a3 : acS s i 3 = 64 * acS s i 2 + (byS s (i + 2) : Int) - 128 := rfl
  have a4 : acS s i 4 = 64 * acS s i 3 + (byS s (i + 3) : Int) - 128 := rfl
  unfold chS offS
  rcases nxS_cases (byS s i) with ⟨q, e⟩ | ⟨q, q', e⟩ | ⟨q, q', e⟩ | ⟨q, q', e⟩ | ⟨q, e⟩ <;> rw [e] at h0 h1 h2 a1 ⊢ <;> simp only at h0 h1 h2 a1 ⊢
  · have key : Utf8.decode s i = (byS s i, 1) := by rw [dec_eq, if_pos q]
    rw [a1, key]
    refine ⟨fun h => by omega, fun _ => ?_⟩
    rw [if_neg (by simp only; omega)]
    exact ⟨rfl, rfl⟩
  · have c1 := h2 1 (by omega) (by omega)
    unfold conS at c1
    rw [a2, a1]
    by_cases hv : 128 ≤ byS s i % 32 * 64 + byS s (i + 1) % 64
    · have key : Utf8.decode s i = (byS s i % 32 * 64 + byS s (i + 1) % 64, 2) := by rw [dec_eq, if_neg (by omega), if_pos (by omega)]; (try simp only [valid_iff]); rw [if_pos hv]
      rw [key, if_neg (by simp only; omega)]
      exact ⟨fun h => by omega, fun _ => ⟨by simp only; omega, rfl⟩⟩
    · have key : Utf8.decode s i = (65533, 1) := by rw [dec_eq, if_neg (by omega), if_pos (by omega)]; (try simp only [valid_iff]); rw [if_neg hv]
      rw [key, if_pos ⟨rfl, rfl⟩]
      exact ⟨fun _ => rfl, fun h => by omega⟩
  · have c1 := h2 1 (by omega) (by omega)
    have c2 := h2 2 (by omega) (by omega)
    unfold conS at c1 c2
    rw [a3, a2, a1]
    by_cases hv : 2048 ≤ byS s i % 16 * 4096 + byS s (i + 1) % 64 * 64 + byS s (i + 2) % 64 ∧ (byS s i % 16 * 4096 + byS s (i + 1) % 64 * 64 + byS s (i + 2) % 64 < 55296 ∨ 57344 ≤ byS s i % 16 * 4096 + byS s (i + 1) % 64 * 64 + byS s (i + 2) % 64 ∧ byS s i % 16 * 4096 + byS s (i + 1) % 64 * 64 + byS s (i + 2) % 64 ≤ 1114111)
    · have key : Utf8.decode s i = (byS s i % 16 * 4096 + byS s (i + 1) % 64 * 64 + byS s (i + 2) % 64, 3) := by rw [dec_eq, if_neg (by omega), if_neg (by omega), if_pos (by omega)]; (try simp only [valid_iff]); rw [if_pos hv]
      rw [key, if_neg (by simp only; omega)]
      exact ⟨fun h => by omega, fun _ => ⟨by simp only; omega, rfl⟩⟩
    · have key : Utf8.decode s i = (65533, 1) := by rw [dec_eq, if_neg (by omega), if_neg (by omega), if_pos (by omega)]; (try simp only [valid_iff]); rw [if_neg hv]
      rw [key, if_pos ⟨rfl, rfl⟩]
      exact ⟨fun _ => rfl, fun h => by omega⟩
  · have c1 := h2 1 (by omega) (by omega)
    have c2 := h2 2 (by omega) (by omega)
    have c3 := h2 3 (by omega) (by omega)
    unfold conS at c1 c2 c3
    rw [a4, a3, a2, a1]
    by_cases hv : 65536 ≤ byS s i % 8 * 262144 + byS s (i + 1) % 64 * 4096 + byS s (i + 2) % 64 * 64 + byS s (i + 3) % 64 ∧ (byS s i % 8 * 262144 + byS s (i + 1) % 64 * 4096 + byS s (i + 2) % 64 * 64 + byS s (i + 3) % 64 < 55296 ∨ 57344 ≤ byS s i % 8 * 262144 + byS s (i + 1) % 64 * 4096 + byS s (i + 2) % 64 * 64 + byS s (i + 3) % 64 ∧ byS s i % 8 * 262144 + byS s (i + 1) % 64 * 4096 + byS s (i + 2) % 64 * 64 + byS s (i + 3) % 64 ≤ 1114111)
    · have key : Utf8.decode s i = (byS s i % 8 * 262144 + byS s (i + 1) % 64 * 4096 + byS s (i + 2) % 64 * 64 + byS s (i + 3) % 64, 4) := by rw [dec_eq, if_neg (by omega), if_neg (by omega), if_neg (by omega), if_pos (by omega)]; (try simp only [valid_iff]); rw [if_pos hv]
      rw [key, if_neg (by simp only; omega)]
      exact ⟨fun h => by omega, fun _ => ⟨by simp only; omega, rfl⟩⟩
    · have key : Utf8.decode s i = (65533, 1) := by rw [dec_eq, if_neg (by omega), if_neg (by omega), if_neg (by omega), if_pos (by omega)]; (try simp only [valid_iff]); rw [if_neg hv]
      rw [key, if_pos ⟨rfl, rfl⟩]
      exact ⟨fun _ => rfl, fun h => by omega⟩
  · omega
end Go.Proofs.YtdfnehngffajiabDoor
