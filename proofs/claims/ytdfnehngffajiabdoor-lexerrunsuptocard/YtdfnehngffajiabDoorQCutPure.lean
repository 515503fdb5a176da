/-
  CutPure: a text's digits, cut into parts: in numbers.
-/
import Derived.Test.YtdfnehngffajiabDoorQReverse
namespace Go.Proofs.YtdfnehngffajiabDoor
open Go.RowKit
set_option linter.unusedVariables false

/-- How many digits, of L that are left, go into the part that is under way. -/
def uL (D L : Nat) : Nat := if L % D = 0 then D else L % D
theorem uL_le {D : Nat} (hD : 1 ≤ D) (L : Nat) : uL D L ≤ D := by
  unfold uL
  split
  · exact Nat.le_refl _
  · exact Nat.le_of_lt (Nat.mod_lt _ hD)
theorem uL_full {D L : Nat} (h : L % D = 0) : uL D L = D := if_pos h
theorem uL_step {D L : Nat} (hD : 1 ≤ D) : uL D (L + 1) = L % D + 1 := by
  have ht := Nat.mod_lt L hD
  have e : L + 1 = D * (L / D) + (L % D + 1) := by have := Nat.div_add_mod L D; omega
  unfold uL
  by_cases q : L % D + 1 = D
  · have : (L + 1) % D = 0 := by
      conv => lhs; rw [e, q]
      exact Nat.mod_eq_zero_of_dvd ⟨L / D + 1, by rw [Nat.mul_add, Nat.mul_one]⟩
    rw [if_pos this, q]
  · have h1 : (L + 1) % D = (L % D + 1) % D := by
      conv => lhs; rw [e]
      exact Nat.mul_add_mod _ _ _
    have h2 : (L % D + 1) % D = L % D + 1 := Nat.mod_eq_of_lt (by omega)
    rw [h1, h2, if_neg (by omega)]
/-- The parts ahead of place p, the part under way, and how many digits it has. -/
structure CutInv (B D n : Nat) (ds : List Nat) (p : Nat) (Gs : List Nat) (cur r : Nat) : Prop where
  gv : ofD B (ds.take p) = ofD (B ^ D) Gs * B ^ r + cur
  cl : cur < B ^ r
  rD : r ≤ D
  ru : p < n → r + uL D (n - p) ≤ D
  re : p < n → Gs ≠ [] → r + uL D (n - p) = D
  en : p = n → 0 < n → r = 0 ∧ Gs ≠ []
  gs : ∀ G ∈ Gs, G < B ^ D
  gl : Gs.length ≤ p
theorem CutInv.start {B D n : Nat} {ds : List Nat} (hD : 1 ≤ D) (hn : 0 < n) : CutInv B D n ds 0 [] 0 0 :=
  ⟨by simp [ofD], by simp, Nat.zero_le _, fun _ => by rw [Nat.zero_add]; exact uL_le hD _, fun _ h => absurd rfl h, fun h => by omega, fun G h => by simp at h, Nat.le_refl _⟩
theorem take_next {ds : List Nat} {p d : Nat} (h : p < ds.length) (hd : ds[p] = d) (B : Nat) : ofD B (ds.take (p + 1)) = ofD B (ds.take p) * B + d := by
  rw [List.take_succ_eq_append_getElem h, ofD_snoc, hd]
theorem part_lt {B D r cur d : Nat} (hB : 0 < B) (hc : cur < B ^ r) (hd : d < B) (hr : r + 1 ≤ D) : cur * B + d < B ^ (r + 1) ∧ cur * B + d < B ^ D := by
  have h1 : (cur + 1) * B ≤ B ^ r * B := Nat.mul_le_mul_right _ hc
  have ps : B ^ r * B = B ^ (r + 1) := rfl
  rw [Nat.add_mul, Nat.one_mul, ps] at h1
  have h2 : B ^ (r + 1) ≤ B ^ D := Nat.pow_le_pow_right hB hr
  exact ⟨by omega, by omega⟩
theorem CutInv.edge {B D n p cur r d : Nat} {ds Gs : List Nat} (h : CutInv B D n ds p Gs cur r) (hB : 0 < B) (hD : 1 ≤ D) (hp : p < n) (hn : ds.length = n) (hd : ds[p]'(by omega) = d) (hdB : d < B) (hz : (n - 1 - p) % D = 0) :
    CutInv B D n ds (p + 1) (Gs ++ [cur * B + d]) 0 0 ∧ cur * B + d < B ^ D := by
  have e1 : n - p = (n - 1 - p) + 1 := by omega
  have hu : uL D (n - p) = 1 := by rw [e1, uL_step hD, hz]
  have hr := h.ru hp
  rw [hu] at hr
  obtain ⟨q1, q2⟩ := part_lt hB h.cl hdB hr
  refine ⟨⟨?_, by simp, Nat.zero_le _, fun _ => by rw [Nat.zero_add]; exact uL_le hD _, fun _ _ => ?_, fun _ _ => ⟨rfl, by simp⟩, fun G hG => ?_, ?_⟩, q2⟩
  · have ps : B ^ r * B = B ^ (r + 1) := rfl
    rw [take_next (by omega) hd, h.gv, Nat.add_mul, Nat.mul_assoc, ps, Nat.pow_zero, Nat.mul_one, Nat.add_zero, ofD_snoc]
    rcases List.eq_nil_or_concat Gs with e | ⟨t, x, e⟩
    · subst e; simp [ofD]
    · have h2 := h.re hp (by rw [e]; simp)
      rw [hu] at h2
      rw [h2]
      omega
  · rw [Nat.zero_add, show n - (p + 1) = n - 1 - p by omega]
    exact uL_full hz
  · rcases List.mem_append.1 hG with q | q
    · exact h.gs G q
    · have : G = cur * B + d := by simpa using q
      rw [this]; exact q2
  · have := h.gl
    simp
    omega
theorem CutInv.more {B D n p cur r d : Nat} {ds Gs : List Nat} (h : CutInv B D n ds p Gs cur r) (hB : 0 < B) (hD : 1 ≤ D) (hp : p < n) (hn : ds.length = n) (hd : ds[p]'(by omega) = d) (hdB : d < B) (hz : (n - 1 - p) % D ≠ 0) :
    CutInv B D n ds (p + 1) Gs (cur * B + d) (r + 1) ∧ cur * B + d < B ^ D := by
  have e1 : n - p = (n - 1 - p) + 1 := by omega
  have hu : uL D (n - p) = (n - 1 - p) % D + 1 := by rw [e1, uL_step hD]
  have e2 : n - (p + 1) = n - 1 - p := by omega
  have hu2 : uL D (n - (p + 1)) = (n - 1 - p) % D := by rw [e2]; exact if_neg hz
  have hr := h.ru hp
  rw [hu] at hr
  have hpn : p + 1 < n := by
    rcases Nat.lt_or_ge (p + 1) n with q | q
    · exact q
    · exfalso
      have : n - 1 - p = 0 := by omega
      rw [this] at hz
      simp at hz
  obtain ⟨q1, q2⟩ := part_lt hB h.cl hdB (D := D) (by omega)
  refine ⟨⟨?_, q1, by omega, fun _ => by rw [hu2]; omega, fun _ hG => ?_, fun q => by omega, h.gs, by have := h.gl; omega⟩, q2⟩
  · have ps : B ^ r * B = B ^ (r + 1) := rfl
    rw [take_next (by omega) hd, h.gv, Nat.add_mul, Nat.mul_assoc, ps]
    omega
  · have := h.re hp hG
    rw [hu] at this
    rw [hu2]
    omega
theorem CutInv.done {B D n cur r : Nat} {ds Gs : List Nat} (h : CutInv B D n ds n Gs cur r) (hn : 0 < n) (hl : ds.length = n) : ofD (B ^ D) Gs = ofD B ds ∧ Gs ≠ [] := by
  obtain ⟨h1, h2⟩ := h.en rfl hn
  have h3 := h.gv
  have h4 := h.cl
  subst h1
  rw [Nat.pow_zero] at h3 h4
  rw [List.take_of_length_le (by omega)] at h3
  exact ⟨by omega, h2⟩
end Go.Proofs.YtdfnehngffajiabDoor
