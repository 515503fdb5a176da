/-
  QBackPureToGroupsPure: BackPure, GroupsPure, joined.
-/
import Derived.Test.YtiiemeigbnnlpaaGreatDoorQGroup4ToValueOf
import Derived.Test.YtiiemeigbnnlpaaGreatDoorQReadToRGroup4
import Derived.Test.YtiiemeigbnnlpaaGreatDoorQSign4ToTxtBack

/- BackPure -/
namespace Go.Proofs.YtiiemeigbnnlpaaGreatDoor
open Go.RowKit
set_option linter.unusedVariables false

def ugL : List UInt8 → Bool → Option (List UInt8)
  | [], m => if m then none else some []
  | c :: r, m => if c = 95 then (if m then none else ugL r true) else (ugL r false).map (c :: ·)
theorem enc_one {c : UInt8} (h : c.toNat < 128) : Lib.encodeRune ((c.toNat : Nat) : Int) = [c] := by
  rw [Lib.encodeRune, Lib.encodeRuneZ_one (by omega) (by omega)]
  simp
theorem ug_ascii {L : List UInt8} (hA : ∀ c ∈ L, c.toNat < 128) : ∀ (f pos : Nat) (m : Bool), L.length ≤ pos + f → ug ⟨L.toArray⟩ f pos m = ugL (L.drop pos) m
  | 0, pos, m, h => by
    rw [List.drop_eq_nil_of_le (by omega)]
    rfl
  | f + 1, pos, m, h => by
    by_cases hp : pos < L.length
    · have hp' : pos < (⟨L.toArray⟩ : ByteArray).size := by rw [mk_size]; exact hp
      have hc := hA _ (List.getElem_mem hp)
      have hd : Utf8.decode (⟨L.toArray⟩ : ByteArray) pos = (L[pos].toNat, 1) := decode_ascii _ pos hp' hc
      rw [ug, if_pos hp', hd, List.drop_eq_getElem_cons hp, ugL, ug_ascii hA f (pos + 1) true (by omega), ug_ascii hA f (pos + 1) false (by omega)]
      dsimp only
      rw [enc_one hc]
      have e : (L[pos].toNat = 95) ↔ (L[pos] = 95) := ⟨fun h => UInt8.toNat_inj.1 h, fun h => by rw [h]; rfl⟩
      simp only [e]
      rfl
    · rw [ug_end (by rw [mk_size]; exact hp), List.drop_eq_nil_of_le (by omega)]
      rfl
theorem ugL_grp : ∀ (l : List UInt8) (f m : Bool), (∀ c ∈ l, c ≠ 95) → (l ≠ [] ∨ m = false) → (f = true ∨ m = false) → ugL (grpF f l) m = some l
  | [], f, m, _, h, _ => by
    rcases h with h | h
    · exact absurd rfl h
    · subst h; rw [grp_nil]; rfl
  | c :: r, f, m, hA, _, h => by
    have ih := ugL_grp r false false (fun c h => hA c (List.mem_cons_of_mem _ h)) (.inr rfl) (.inr rfl)
    have hc : c ≠ 95 := hA c (by simp)
    unfold grpF
    split
    · rename_i hq
      obtain rfl : m = false := by rcases h with h | h <;> simp_all
      show ugL (95 :: c :: grpF false r) false = _
      rw [ugL, if_pos rfl, if_neg (by simp), ugL, if_neg hc, ih]
      rfl
    · show ugL (c :: grpF false r) m = _
      rw [ugL, if_neg hc, ih]
      rfl
theorem grp_len : ∀ (f : Bool) (l : List UInt8), (grpF f l).length ≤ 2 * l.length
  | f, [] => by rw [grp_nil]; simp
  | f, c :: r => by
    have := grp_len false r
    unfold grpF
    split <;> simp <;> omega
theorem grp_mem : ∀ (f : Bool) (l : List UInt8) (c : UInt8), c ∈ grpF f l → c = 95 ∨ c ∈ l
  | f, [], c, h => by rw [grp_nil] at h; exact absurd h (by simp)
  | f, d :: r, c, h => by
    unfold grpF at h
    rcases List.mem_append.1 h with h | h
    · split at h
      · simp at h; rcases h with h | h
        · exact .inl h
        · exact .inr (by simp [h])
      · simp at h; exact .inr (by simp [h])
    · rcases grp_mem false r c h with h | h
      · exact .inl h
      · exact .inr (List.mem_cons_of_mem _ h)
theorem ug_back {l : List UInt8} (hl : l ≠ []) (hg : Good 10 l) : ug ⟨(grpF true l).toArray⟩ (⟨(grpF true l).toArray⟩ : ByteArray).size 0 true = some l := by
  rw [ug_ascii (fun c hc => ?_) _ 0 true (by rw [mk_size]; omega), List.drop_zero]
  · exact ugL_grp l true true (fun c h => (good_ten hg h).2) (.inl hl) (.inl rfl)
  · rcases grp_mem true l c hc with rfl | h
    · decide
    · exact (good_ten hg h).1
theorem readDec_back {w : World} {n : Nat} (hT : Sg w) (hl : (txtL 10 n).length ≤ 67108865) : Calls Tryz.prog 16 #[.string (txt 10 n)] w (ReadTo w 0 n) :=
  (readDec_any (l := txtL 10 n) hT (by omega)).mono fun e w' hp => by
    have hb := txt_back (B := 10) (n := n) (by omega) (by omega)
    rcases hp with ⟨_, zs, a, c, h1, h2, h3, h4, h5⟩ | ⟨q, _⟩
    · exact ⟨zs, a, c, h1, h2.mono (Nat.zero_le _), h3, h4.trans hb.2, h5⟩
    · exact absurd hb.1 q
theorem read_back {w : World} {B n : Nat} (hB : 2 ≤ B) (hB2 : B ≤ 36) (hT : Sg w) (hl : (txtL B n).length ≤ 67108865) : Calls Tryz.prog 18 #[.string (txt B n), .int .i64 (B : Int)] w (ReadTo w 0 n) := by
  have hb := txt_back (B := B) (n := n) hB hB2
  have h := read_good (l := txtL B n) hB hB2 hT (by omega) hb.1
  rw [hb.2] at h
  exact h
theorem readGrouped_back {w : World} {n : Nat} (hT : Sg w) (hl : (txtL 10 n).length ≤ 67108865) : Calls Tryz.prog 17 #[.string ⟨(grpF true (txtL 10 n)).toArray⟩] w (ReadTo w 0 n) :=
  (readGrouped_any (by rw [mk_size]; have := grp_len true (txtL 10 n); omega) hT).mono fun e w' hp => by
    have hb := txt_back (B := 10) (n := n) (by omega) (by omega)
    have hu := ug_back hb.1.1 hb.1.2
    rcases hp with ⟨l, hl', hr⟩ | ⟨q, _⟩
    · obtain rfl : txtL 10 n = l := Option.some.inj (hu.symm.trans hl')
      rcases hr with ⟨_, zs, a, c, h1, h2, h3, h4, h5⟩ | ⟨q, _⟩
      · exact ⟨zs, a, c, h1, h2.mono (Nat.zero_le _), h3, h4.trans hb.2, h5⟩
      · exact absurd hb.1 q
    · rw [hu] at q; cases q
end Go.Proofs.YtiiemeigbnnlpaaGreatDoor

/- GroupsPure -/
namespace Go.Proofs.YtiiemeigbnnlpaaGreatDoor
open Go.RowKit
set_option linter.unusedVariables false

theorem grp_length : ∀ (l : List UInt8), (grpF false l).length = l.length + l.length / 3
  | [] => by rw [grp_nil]; rfl
  | c :: r => by
    have ih := grp_length r
    unfold grpF
    split <;> rename_i hq <;> simp only [true_and] at hq <;> simp only [List.length_append, List.length_cons, List.length_nil, ih] <;> omega
/-- A grouped text by its bytes, as the law takes it apart: each fourth from the end a mark. -/
def chk : List UInt8 → Option (List UInt8)
  | [] => some []
  | c :: r => if (r.length + 1) % 4 = 0 then (if c = 95 then chk r else none) else (chk r).map (c :: ·)
theorem chk_grp : ∀ (f : Bool) (l : List UInt8), chk (grpF f l) = some l
  | f, [] => by rw [grp_nil]; rfl
  | f, c :: r => by
    have ih := chk_grp false r
    have hl := grp_length r
    have h1 : chk (c :: grpF false r) = some (c :: r) := by
      rw [chk, if_neg (by rw [hl]; omega), ih]; rfl
    unfold grpF
    split
    · rename_i hq
      show chk (95 :: c :: grpF false r) = _
      rw [chk, if_pos (by rw [List.length_cons, hl]; omega), if_pos rfl]
      exact h1
    · exact h1
theorem chk_first {l : List UInt8} (h : l ≠ []) : (grpF true l).length % 4 ≠ 0 := by
  cases l with
  | nil => exact absurd rfl h
  | cons c r =>
    have hl := grp_length r
    unfold grpF
    rw [if_neg (by simp)]
    simp only [List.length_append, List.length_cons, List.length_nil, hl]
    omega
theorem chk_step {G : List UInt8} {k : Nat} {X : List UInt8} (h : k < G.length) (hc : chk (G.drop k) = some X) :
    if (G.length - k) % 4 = 0 then G[k] = 95 ∧ chk (G.drop (k + 1)) = some X else ∃ Y, X = G[k] :: Y ∧ chk (G.drop (k + 1)) = some Y := by
  rw [List.drop_eq_getElem_cons h, chk, List.length_drop, show G.length - (k + 1) + 1 = G.length - k by omega] at hc
  split
  · rename_i q
    rw [if_pos q] at hc
    split at hc
    · rename_i e; exact ⟨e, hc⟩
    · cases hc
  · rename_i q
    rw [if_neg q] at hc
    cases hd : chk (G.drop (k + 1)) with
    | none => rw [hd] at hc; cases hc
    | some Y => rw [hd] at hc; exact ⟨Y, (Option.some.inj hc).symm, rfl⟩

/-- No two marks beside each other. -/
def Lone (W : List UInt8) : Prop := ∀ j (h : j + 1 < W.length), ¬ (W[j] = 95 ∧ W[j + 1] = 95)
theorem Lone.tail {c : UInt8} {W : List UInt8} (h : Lone (c :: W)) : Lone W := fun j hj => h (j + 1) (by simp; omega)
theorem ugL_lone : ∀ (W : List UInt8) (m : Bool), Lone W → (m = true → ∃ c r, W = c :: r ∧ c ≠ 95) → (∀ h : W ≠ [], W.getLast h ≠ 95) → ugL W m = some (W.filter (· != 95))
  | [], m, _, h, _ => by
    cases m with
    | true => obtain ⟨c, r, e, _⟩ := h rfl; cases e
    | false => rfl
  | c :: r, m, hL, hm, hl => by
    have hl' : ∀ h : r ≠ [], r.getLast h ≠ 95 := fun h => by have := hl (by simp); rwa [List.getLast_cons h] at this
    by_cases hc : c = 95
    · subst hc
      obtain rfl : m = false := by
        cases m with
        | true => obtain ⟨c, r', e, q⟩ := hm rfl; cases e; exact absurd rfl q
        | false => rfl
      rw [ugL, if_pos rfl, if_neg (by simp), ugL_lone r true hL.tail (fun _ => ?_) hl']
      · simp
      · cases r with
        | nil => exact absurd rfl (hl (by simp))
        | cons d t => exact ⟨d, t, rfl, fun e => hL 0 (by simp) ⟨rfl, by simpa using e⟩⟩
    · rw [ugL, if_neg hc, ugL_lone r false hL.tail (fun h => by cases h) hl']
      simp [hc]
theorem ugL_twice : ∀ (W : List UInt8) (m : Bool), ¬ Lone W → ugL W m = none
  | [], m, h => absurd (fun j hj => by simp at hj) h
  | [c], m, h => absurd (fun j hj => by simp at hj) h
  | c :: d :: r, m, h => by
    by_cases hc : c = 95
    · subst hc
      rw [ugL, if_pos rfl]
      split
      · rfl
      · by_cases hd : d = 95
        · subst hd; rw [ugL, if_pos rfl, if_pos rfl]
        · refine ugL_twice (d :: r) true fun hL => h fun j hj => ?_
          cases j with
          | zero => exact fun q => hd q.2
          | succ j => exact hL j (by simp at hj ⊢; omega)
    · rw [ugL, if_neg hc, ugL_twice (d :: r) false fun hL => h fun j hj => ?_]
      · rfl
      · cases j with
        | zero => exact fun q => hc q.1
        | succ j => exact hL j (by simp at hj ⊢; omega)
theorem ugL_behind : ∀ (W : List UInt8) (m : Bool), ugL (W ++ [95]) m = none
  | [], m => by
    show ugL [95] m = none
    rw [ugL, if_pos rfl]
    split <;> rfl
  | c :: r, m => by
    show ugL (c :: (r ++ [95])) m = none
    rw [ugL, ugL_behind r true, ugL_behind r false]
    split
    · split <;> rfl
    · rfl
theorem ugL_ahead (W : List UInt8) : ugL (95 :: W) true = none := by rw [ugL, if_pos rfl, if_pos rfl]

/-- The text with marks laid in: no mark first or last; without marks it is L. -/
structure Wide (L W : List UInt8) (k : Nat) : Prop where
  flt : W.filter (· != 95) = L
  hd : ∃ c r, W = c :: r ∧ c ≠ 95
  tl : ∀ h : W ≠ [], W.getLast h ≠ 95
  len : W.length ≤ L.length + k
  asc : ∀ c ∈ W, c.toNat < 128
theorem Wide.start {L : List UInt8} (h0 : L ≠ []) (hg : Good 10 L) : Wide L L 0 where
  flt := by rw [List.filter_eq_self]; intro c hc; simpa using (good_ten hg hc).2
  hd := by
    cases L with
    | nil => exact absurd rfl h0
    | cons c r => exact ⟨c, r, rfl, (good_ten hg (by simp)).2⟩
  tl := fun h => (good_ten hg (List.getLast_mem h)).2
  len := Nat.le_refl _
  asc := fun c hc => (good_ten hg hc).1
theorem Wide.more {L W : List UInt8} {k : Nat} (h : Wide L W k) : Wide L W (k + 1) := { h with len := Nat.le_succ_of_le h.len }
theorem Wide.mark {L W : List UInt8} {k p : Nat} (h : Wide L W k) (h0 : 0 < p) (h1 : p < W.length) : Wide L (W.take p ++ [95] ++ W.drop p) (k + 1) where
  flt := by
    rw [List.filter_append, List.filter_append, show ([95] : List UInt8).filter (· != 95) = [] from rfl, List.append_nil, ← List.filter_append, List.take_append_drop]
    exact h.flt
  hd := by
    obtain ⟨c, r, rfl, hc⟩ := h.hd
    obtain ⟨q, rfl⟩ : ∃ q, p = q + 1 := ⟨p - 1, by omega⟩
    exact ⟨c, r.take q ++ [95] ++ r.drop q, by simp, hc⟩
  tl := fun hn => by
    have hd : W.drop p ≠ [] := by simp; omega
    rw [List.getLast_append_of_ne_nil _ hd, List.getLast_drop]
    exact h.tl _
  len := by have := h.len; simp; omega
  asc := fun c hc => by
    rcases List.mem_append.1 hc with hc | hc
    · rcases List.mem_append.1 hc with hc | hc
      · exact h.asc c (List.mem_of_mem_take hc)
      · rw [List.mem_singleton.1 hc]; decide
    · exact h.asc c (List.mem_of_mem_drop hc)
theorem rg_none {w : World} {L : List UInt8} (hT : Sg w) (hl : L.length ≤ 200000000) (hA : ∀ c ∈ L, c.toNat < 128) (h : ugL L true = none) :
    Calls Tryz.prog 17 #[.string ⟨L.toArray⟩] w fun e w' => e = .returned (.tuple #[.slice none 0 0, .int .i64 7]) ∧ Below w.heap.size w w' :=
  (readGrouped_any (by rw [mk_size]; exact hl) hT).mono fun e w' hp => by
    have hu := ug_ascii hA (⟨L.toArray⟩ : ByteArray).size 0 true (by rw [mk_size]; omega)
    rw [List.drop_zero, h] at hu
    rcases hp with ⟨l, q, _⟩ | ⟨_, h1, h2⟩
    · rw [hu] at q; cases q
    · exact ⟨h1, h2⟩
theorem rg_some {w : World} {L D : List UInt8} {n : Nat} (hT : Sg w) (hl : L.length ≤ 200000000) (hA : ∀ c ∈ L, c.toNat < 128) (h : ugL L true = some D) (hD : D ≠ [] ∧ Good 10 D) (hn : ofD 10 (dsL D) = n) :
    Calls Tryz.prog 17 #[.string ⟨L.toArray⟩] w (ReadTo w 0 n) :=
  (readGrouped_any (by rw [mk_size]; exact hl) hT).mono fun e w' hp => by
    have hu := ug_ascii hA (⟨L.toArray⟩ : ByteArray).size 0 true (by rw [mk_size]; omega)
    rw [List.drop_zero, h] at hu
    rcases hp with ⟨l, q, hr⟩ | ⟨q, _⟩
    · obtain rfl : D = l := Option.some.inj (hu.symm.trans q)
      rcases hr with ⟨_, zs, a, c, h1, h2, h3, h4, h5⟩ | ⟨q, _⟩
      · exact ⟨zs, a, c, h1, h2.mono (Nat.zero_le _), h3, h4.trans hn, h5⟩
      · exact absurd hD q
    · rw [hu] at q; cases q
end Go.Proofs.YtiiemeigbnnlpaaGreatDoor
