/-
  GroupsPure: what the walk of RadixGroups leans on, as lists of bytes.
-/
import Derived.Test.YtdeamihpgdblkaaDoorQBackPure
namespace Go.Proofs.YtdeamihpgdblkaaDoor
open Go.RowKit
set_option linter.unusedVariables false

theorem grp_length : ∀ (l : List UInt8), (grpF false l).length = l.length + l.length / 3
  | [] => by rw [grp_nil]; rfl
  | c :: r => by
    have ih := grp_length r
    unfold grpF
    split <;> rename_i hq <;> simp only [true_and] at hq <;> simp only [List.length_append, List.length_cons, List.length_nil, ih] <;> omega
/-- A grouped text by its bytes, as the law takes it apart: each fourth from the end a mark. -/
def chk : List UInt8 → Option (List UInt8)
  | [] => some []
  | c :: r => if (r.length + 1) % 4 = 0 then (if c = 95 then chk r else none) else (chk r).map (c :: ·)
theorem chk_grp : ∀ (f : Bool) (l : List UInt8), chk (grpF f l) = some l
  | f, [] => by rw [grp_nil]; rfl
  | f, c :: r => by
    have ih := chk_grp false r
    have hl := grp_length r
    have h1 : chk (c :: grpF false r) = some (c :: r) := by
      rw [chk, if_neg (by rw [hl]; omega), ih]; rfl
    unfold grpF
    split
    · rename_i hq
      show chk (95 :: c :: grpF false r) = _
      rw [chk, if_pos (by rw [List.length_cons, hl]; omega), if_pos rfl]
      exact h1
    · exact h1
theorem chk_first {l : List UInt8} (h : l ≠ []) : (grpF true l).length % 4 ≠ 0 := by
  cases l with
  | nil => exact absurd rfl h
  | cons c r =>
    have hl := grp_length r
    unfold grpF
    rw [if_neg (by simp)]
    simp only [List.length_append, List.length_cons, List.length_nil, hl]
    omega
theorem chk_step {G : List UInt8} {k : Nat} {X : List UInt8} (h : k < G.length) (hc : chk (G.drop k) = some X) :
    if (G.length - k) % 4 = 0 then G[k] = 95 ∧ chk (G.drop (k + 1)) = some X else ∃ Y, X = G[k] :: Y ∧ chk (G.drop (k + 1)) = some Y := by
  rw [List.drop_eq_getElem_cons h, chk, List.length_drop, show G.length - (k + 1) + 1 = G.length - k by omega] at hc
  split
  · rename_i q
    rw [if_pos q] at hc
    split at hc
    · rename_i e; exact ⟨e, hc⟩
    · cases hc
  · rename_i q
    rw [if_neg q] at hc
    cases hd : chk (G.drop (k + 1)) with
    | none => rw [hd] at hc; cases hc
    | some Y => rw [hd] at hc; exact ⟨Y, (Option.some.inj hc).symm, rfl⟩

/-- No two marks beside each other. -/
def Lone (W : List UInt8) : Prop := ∀ j (h : j + 1 < W.length), ¬ (W[j] = 95 ∧ W[j + 1] = 95)
theorem Lone.tail {c : UInt8} {W : List UInt8} (h : Lone (c :: W)) : Lone W := fun j hj => h (j + 1) (by simp; omega)
theorem ugL_lone : ∀ (W : List UInt8) (m : Bool), Lone W → (m = true → ∃ c r, W = c :: r ∧ c ≠ 95) → (∀ h : W ≠ [], W.getLast h ≠ 95) → ugL W m = some (W.filter (· != 95))
  | [], m, _, h, _ => by
    cases m with
    | true => obtain ⟨c, r, e, _⟩ := h rfl; cases e
    | false => rfl
  | c :: r, m, hL, hm, hl => by
    have hl' : ∀ h : r ≠ [], r.getLast h ≠ 95 := fun h => by have := hl (by simp); rwa [List.getLast_cons h] at this
    by_cases hc : c = 95
    · subst hc
      obtain rfl : m = false := by
        cases m with
        | true => obtain ⟨c, r', e, q⟩ := hm rfl; cases e; exact absurd rfl q
        | false => rfl
      rw [ugL, if_pos rfl, if_neg (by simp), ugL_lone r true hL.tail (fun _ => ?_) hl']
      · simp
      · cases r with
        | nil => exact absurd rfl (hl (by simp))
        | cons d t => exact ⟨d, t, rfl, fun e => hL 0 (by simp) ⟨rfl, by simpa using e⟩⟩
    · rw [ugL, if_neg hc, ugL_lone r false hL.tail (fun h => by cases h) hl']
      simp [hc]
theorem ugL_twice : ∀ (W : List UInt8) (m : Bool), ¬ Lone W → ugL W m = none
  | [], m, h => absurd (fun j hj => by simp at hj) h
  | [c], m, h => absurd (fun j hj => by simp at hj) h
  | c :: d :: r, m, h => by
    by_cases hc : c = 95
    · subst hc
      rw [ugL, if_pos rfl]
      split
      · rfl
      · by_cases hd : d = 95
        · subst hd; rw [ugL, if_pos rfl, if_pos rfl]
        · refine ugL_twice (d :: r) true fun hL => h fun j hj => ?_
          cases j with
          | zero => exact fun q => hd q.2
          | succ j => exact hL j (by simp at hj ⊢; omega)
    · rw [ugL, if_neg hc, ugL_twice (d :: r) false fun hL => h fun j hj => ?_]
      · rfl
      · cases j with
        | zero => exact fun q => hc q.1
        | succ j => exact hL j (by simp at hj ⊢; omega)
theorem ugL_behind : ∀ (W : List UInt8) (m : Bool), ugL (W ++ [95]) m = none
  | [], m => by
    show ugL [95] m = none
    rw [ugL, if_pos rfl]
    split <;> rfl
  | c :: r, m => by
    show ugL (c :: (r ++ [95])) m = none
    rw [ugL, ugL_behind r true, ugL_behind r false]
    split
    · split <;> rfl
    · rfl
theorem ugL_ahead (W : List UInt8) : ugL (95 :: W) true = none := by rw [ugL, if_pos rfl, if_pos rfl]

/-- The text with marks laid in: no mark first or last; without marks it is L. -/
structure Wide (L W : List UInt8) (k : Nat) : Prop where
  flt : W.filter (· != 95) = L
  hd : ∃ c r, W = c :: r ∧ c ≠ 95
  tl : ∀ h : W ≠ [], W.getLast h ≠ 95
  len : W.length ≤ L.length + k
  asc : ∀ c ∈ W, c.toNat < 128
theorem Wide.start {L : List UInt8} (h0 : L ≠ []) (hg : Good 10 L) : Wide L L 0 where
  flt := by rw [List.filter_eq_self]; intro c hc; simpa using (good_ten hg hc).2
  hd := by
    cases L with
    | nil => exact absurd rfl h0
    | cons c r => exact ⟨c, r, rfl, (good_ten hg (by simp)).2⟩
  tl := fun h => (good_ten hg (List.getLast_mem h)).2
  len := Nat.le_refl _
  asc := fun c hc => (good_ten hg hc).1
theorem Wide.more {L W : List UInt8} {k : Nat} (h : Wide L W k) : Wide L W (k + 1) := { h with len := Nat.le_succ_of_le h.len }
theorem Wide.mark {L W : List UInt8} {k p : Nat} (h : Wide L W k) (h0 : 0 < p) (h1 : p < W.length) : Wide L (W.take p ++ [95] ++ W.drop p) (k + 1) where
  flt := by
    rw [List.filter_append, List.filter_append, show ([95] : List UInt8).filter (· != 95) = [] from rfl, List.append_nil, ← List.filter_append, List.take_append_drop]
    exact h.flt
  hd := by
    obtain ⟨c, r, rfl, hc⟩ := h.hd
    obtain ⟨q, rfl⟩ : ∃ q, p = q + 1 := ⟨p - 1, by omega⟩
    exact ⟨c, r.take q ++ [95] ++ r.drop q, by simp, hc⟩
  tl := fun hn => by
    have hd : W.drop p ≠ [] := by simp; omega
    rw [List.getLast_append_of_ne_nil _ hd, List.getLast_drop]
    exact h.tl _
  len := by have := h.len; simp; omega
  asc := fun c hc => by
    rcases List.mem_append.1 hc with hc | hc
    · rcases List.mem_append.1 hc with hc | hc
      · exact h.asc c (List.mem_of_mem_take hc)
      · rw [List.mem_singleton.1 hc]; decide
    · exact h.asc c (List.mem_of_mem_drop hc)
theorem rg_none {w : World} {L : List UInt8} (hT : Sg w) (hl : L.length ≤ 200000000) (hA : ∀ c ∈ L, c.toNat < 128) (h : ugL L true = none) :
    Calls Tryd.prog 7 #[.string ⟨L.toArray⟩] w fun e w' => e = .returned (.tuple #[.slice none 0 0, .int .i64 7]) ∧ Below w.heap.size w w' :=
  (readGrouped_any (by rw [mk_size]; exact hl) hT).mono fun e w' hp => by
    have hu := ug_ascii hA (⟨L.toArray⟩ : ByteArray).size 0 true (by rw [mk_size]; omega)
    rw [List.drop_zero, h] at hu
    rcases hp with ⟨l, q, _⟩ | ⟨_, h1, h2⟩
    · rw [hu] at q; cases q
    · exact ⟨h1, h2⟩
theorem rg_some {w : World} {L D : List UInt8} {n : Nat} (hT : Sg w) (hl : L.length ≤ 200000000) (hA : ∀ c ∈ L, c.toNat < 128) (h : ugL L true = some D) (hD : D ≠ [] ∧ Good 10 D) (hn : ofD 10 (dsL D) = n) :
    Calls Tryd.prog 7 #[.string ⟨L.toArray⟩] w (ReadTo w 0 n) :=
  (readGrouped_any (by rw [mk_size]; exact hl) hT).mono fun e w' hp => by
    have hu := ug_ascii hA (⟨L.toArray⟩ : ByteArray).size 0 true (by rw [mk_size]; omega)
    rw [List.drop_zero, h] at hu
    rcases hp with ⟨l, q, hr⟩ | ⟨q, _⟩
    · obtain rfl : D = l := Option.some.inj (hu.symm.trans q)
      rcases hr with ⟨_, zs, a, c, h1, h2, h3, h4, h5⟩ | ⟨q, _⟩
      · exact ⟨zs, a, c, h1, h2, h3, h4.trans hn, h5⟩
      · exact absurd hD q
    · rw [hu] at q; cases q
end Go.Proofs.YtdeamihpgdblkaaDoor
