/-
  BackPure: what is written reads back: as lists of bytes; ungrouping.
-/
import Derived.Test.YtdeamihpgdblkaaDoorQGroup4
import Derived.Test.YtdeamihpgdblkaaDoorQRGroup4
import Derived.Test.YtdeamihpgdblkaaDoorQSign4ToStepPure
namespace Go.Proofs.YtdeamihpgdblkaaDoor
open Go.RowKit
set_option linter.unusedVariables false

theorem dv_sgn {d : Nat} (h : d < 36) : dv (sgnB d).toNat = d := by
  rw [sgnB_nat h]
  unfold sgn dv
  (repeat' split) <;> omega
theorem mem_lead {ds : List Nat} {d : Nat} (h : d ∈ lead ds) : d ∈ ds := (List.dropWhile_suffix _).subset h
theorem txt_ds {B n : Nat} (hB : 2 ≤ B) (hB2 : B ≤ 36) (hn : n ≠ 0) : dsL (txtL B n) = lead (digF B n n) := by
  unfold txtL dsL
  rw [if_neg hn, List.map_map]
  conv => rhs; rw [← List.map_id (lead (digF B n n))]
  apply List.map_congr_left
  intro d hd
  exact dv_sgn (by have := digF_lt (show 0 < B by omega) n n d (mem_lead hd); omega)
theorem txt_back {B n : Nat} (hB : 2 ≤ B) (hB2 : B ≤ 36) : (txtL B n ≠ [] ∧ Good B (txtL B n)) ∧ ofD B (dsL (txtL B n)) = n := by
  by_cases hn : n = 0
  · subst hn
    have e : txtL B 0 = [48] := by unfold txtL; rw [if_pos rfl]
    rw [e]
    refine ⟨⟨by simp, fun b hb => ?_⟩, by rw [show dsL [48] = [0] from rfl, ofD_one]⟩
    rw [List.mem_singleton.1 hb]
    exact Nat.lt_of_lt_of_le (by decide : dv (48 : UInt8).toNat < 2) hB
  · refine ⟨⟨txtL_ne hB hn, fun b hb => ?_⟩, ?_⟩
    · have h1 : dv b.toNat ∈ dsL (txtL B n) := List.mem_map.2 ⟨b, hb, rfl⟩
      rw [txt_ds hB hB2 hn] at h1
      exact digF_lt (by omega) n n _ (mem_lead h1)
    · rw [txt_ds hB hB2 hn, ofD_lead, ofD_digF, Nat.mod_eq_of_lt (lt_pow_self hB n)]
theorem good_ten {l : List UInt8} (h : Good 10 l) {c : UInt8} (hc : c ∈ l) : c.toNat < 128 ∧ c ≠ 95 := by
  have h1 := h c hc
  have h2 : 48 ≤ c.toNat ∧ c.toNat ≤ 57 := by
    unfold dv at h1
    (repeat' split at h1) <;> omega
  exact ⟨by omega, fun e => by rw [e] at h2; exact absurd h2.2 (by decide)⟩

def ugL : List UInt8 → Bool → Option (List UInt8)
  | [], m => if m then none else some []
  | c :: r, m => if c = 95 then (if m then none else ugL r true) else (ugL r false).map (c :: ·)
theorem enc_one {c : UInt8} (h : c.toNat < 128) : Lib.encodeRune ((c.toNat : Nat) : Int) = [c] := by
  rw [Lib.encodeRune, Lib.encodeRuneZ_one (by omega) (by omega)]
  simp
theorem ug_ascii {L : List UInt8} (hA : ∀ c ∈ L, c.toNat < 128) : ∀ (f pos : Nat) (m : Bool), L.length ≤ pos + f → ug ⟨L.toArray⟩ f pos m = ugL (L.drop pos) m
  | 0, pos, m, h => by
    rw [List.drop_eq_nil_of_le (by omega)]
    rfl
  | f + 1, pos, m, h => by
    by_cases hp : pos < L.length
    · have hp' : pos < (⟨L.toArray⟩ : ByteArray).size := by rw [mk_size]; exact hp
      have hc := hA _ (List.getElem_mem hp)
      have hd : Utf8.decode (⟨L.toArray⟩ : ByteArray) pos = (L[pos].toNat, 1) := decode_ascii _ pos hp' hc
      rw [ug, if_pos hp', hd, List.drop_eq_getElem_cons hp, ugL, ug_ascii hA f (pos + 1) true (by omega), ug_ascii hA f (pos + 1) false (by omega)]
      dsimp only
      rw [enc_one hc]
      have e : (L[pos].toNat = 95) ↔ (L[pos] = 95) := ⟨fun h => UInt8.toNat_inj.1 h, fun h => by rw [h]; rfl⟩
      simp only [e]
      rfl
    · rw [ug_end (by rw [mk_size]; exact hp), List.drop_eq_nil_of_le (by omega)]
      rfl
theorem ugL_grp : ∀ (l : List UInt8) (f m : Bool), (∀ c ∈ l, c ≠ 95) → (l ≠ [] ∨ m = false) → (f = true ∨ m = false) → ugL (grpF f l) m = some l
  | [], f, m, _, h, _ => by
    rcases h with h | h
    · exact absurd rfl h
    · subst h; rw [grp_nil]; rfl
  | c :: r, f, m, hA, _, h => by
    have ih := ugL_grp r false false (fun c h => hA c (List.mem_cons_of_mem _ h)) (.inr rfl) (.inr rfl)
    have hc : c ≠ 95 := hA c (by simp)
    unfold grpF
    split
    · rename_i hq
      obtain rfl : m = false := by rcases h with h | h <;> simp_all
      show ugL (95 :: c :: grpF false r) false = _
      rw [ugL, if_pos rfl, if_neg (by simp), ugL, if_neg hc, ih]
      rfl
    · show ugL (c :: grpF false r) m = _
      rw [ugL, if_neg hc, ih]
      rfl
theorem grp_len : ∀ (f : Bool) (l : List UInt8), (grpF f l).length ≤ 2 * l.length
  | f, [] => by rw [grp_nil]; simp
  | f, c :: r => by
    have := grp_len false r
    unfold grpF
    split <;> simp <;> omega
theorem grp_mem : ∀ (f : Bool) (l : List UInt8) (c : UInt8), c ∈ grpF f l → c = 95 ∨ c ∈ l
  | f, [], c, h => by rw [grp_nil] at h; exact absurd h (by simp)
  | f, d :: r, c, h => by
    unfold grpF at h
    rcases List.mem_append.1 h with h | h
    · split at h
      · simp at h; rcases h with h | h
        · exact .inl h
        · exact .inr (by simp [h])
      · simp at h; exact .inr (by simp [h])
    · rcases grp_mem false r c h with h | h
      · exact .inl h
      · exact .inr (List.mem_cons_of_mem _ h)
theorem ug_back {l : List UInt8} (hl : l ≠ []) (hg : Good 10 l) : ug ⟨(grpF true l).toArray⟩ (⟨(grpF true l).toArray⟩ : ByteArray).size 0 true = some l := by
  rw [ug_ascii (fun c hc => ?_) _ 0 true (by rw [mk_size]; omega), List.drop_zero]
  · exact ugL_grp l true true (fun c h => (good_ten hg h).2) (.inl hl) (.inl rfl)
  · rcases grp_mem true l c hc with rfl | h
    · decide
    · exact (good_ten hg h).1
theorem readDec_back {w : World} {n : Nat} (hT : Sg w) (hl : (txtL 10 n).length ≤ 67108865) : Calls Tryd.prog 14 #[.string (txt 10 n)] w (ReadTo w 0 n) :=
  (readDec_any (l := txtL 10 n) hT (by omega)).mono fun e w' hp => by
    have hb := txt_back (B := 10) (n := n) (by omega) (by omega)
    rcases hp with ⟨_, zs, a, c, h1, h2, h3, h4, h5⟩ | ⟨q, _⟩
    · exact ⟨zs, a, c, h1, h2, h3, h4.trans hb.2, h5⟩
    · exact absurd hb.1 q
theorem read_back {w : World} {B n : Nat} (hB : 2 ≤ B) (hB2 : B ≤ 36) (hT : Sg w) (hl : (txtL B n).length ≤ 67108865) : Calls Tryd.prog 23 #[.string (txt B n), .int .i64 (B : Int)] w (ReadTo w 0 n) := by
  have hb := txt_back (B := B) (n := n) hB hB2
  have h := read_good (l := txtL B n) hB hB2 hT (by omega) hb.1
  rw [hb.2] at h
  exact h
theorem readGrouped_back {w : World} {n : Nat} (hT : Sg w) (hl : (txtL 10 n).length ≤ 67108865) : Calls Tryd.prog 7 #[.string ⟨(grpF true (txtL 10 n)).toArray⟩] w (ReadTo w 0 n) :=
  (readGrouped_any (by rw [mk_size]; have := grp_len true (txtL 10 n); omega) hT).mono fun e w' hp => by
    have hb := txt_back (B := 10) (n := n) (by omega) (by omega)
    have hu := ug_back hb.1.1 hb.1.2
    rcases hp with ⟨l, hl', hr⟩ | ⟨q, _⟩
    · obtain rfl : txtL 10 n = l := Option.some.inj (hu.symm.trans hl')
      rcases hr with ⟨_, zs, a, c, h1, h2, h3, h4, h5⟩ | ⟨q, _⟩
      · exact ⟨zs, a, c, h1, h2, h3, h4.trans hb.2, h5⟩
      · exact absurd hb.1 q
    · rw [hu] at q; cases q
end Go.Proofs.YtdeamihpgdblkaaDoor
