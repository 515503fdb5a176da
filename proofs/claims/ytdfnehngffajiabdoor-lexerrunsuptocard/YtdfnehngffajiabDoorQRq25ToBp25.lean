/-
  QRq25ToBp25: Rq25, Bh25, Bp25, joined.
-/
import Derived.Test.YtdfnehngffajiabDoorQRg25
import Derived.Test.YtdfnehngffajiabDoorQAw25ToPn25
import Derived.Test.YtdfnehngffajiabDoorQBj25
import Derived.Test.YtdfnehngffajiabDoorQRt25ToLq25
import Derived.Test.YtdfnehngffajiabDoorQCp25ToLib25

/- Rq25 -/
namespace Go.Proofs.YtdfnehngffajiabDoor
open Go.RowKit
set_option linter.unusedVariables false

def DgM (L : List UInt8) : Prop := ∀ c ∈ L, (48 ≤ c.toNat ∧ c.toNat ≤ 57) ∨ c = 95
theorem ugL_none : ∀ (L : List UInt8) (m : Bool), ugL L m = none ↔ ((m = true ∧ L = []) ∨ (m = true ∧ L[0]? = some (95 : UInt8)) ∨ (∃ j : Nat, L[j]? = some (95 : UInt8) ∧ L[j + 1]? = some (95 : UInt8)) ∨ (∃ j : Nat, j + 1 = L.length ∧ L[j]? = some (95 : UInt8)))
  | [], m => by
    cases m
    · simp [ugL]
    · simp [ugL]
  | c :: r, m => by
    have i1 := ugL_none r true
    have i2 := ugL_none r false
    have nx : ∀ P : Nat → Prop, (∃ j, P j) ↔ (P 0 ∨ ∃ j, P (j + 1)) := fun P => ⟨fun ⟨j, h⟩ => by cases j with | zero => exact .inl h | succ j => exact .inr ⟨j, h⟩, fun h => h.elim (fun h => ⟨0, h⟩) fun ⟨j, h⟩ => ⟨j + 1, h⟩⟩
    rw [nx (fun j => (c :: r)[j]? = some (95 : UInt8) ∧ (c :: r)[j + 1]? = some (95 : UInt8)), nx (fun j => j + 1 = (c :: r).length ∧ (c :: r)[j]? = some (95 : UInt8))]
    simp only [List.getElem?_cons_succ, List.getElem?_cons_zero, List.length_cons, Nat.add_right_cancel_iff, Option.some.injEq]
    unfold ugL
    by_cases hc : c = 95
    · rw [if_pos hc]
      cases m
      · rw [if_neg (by simp), i1]
        constructor
        · rintro (⟨_, h⟩ | ⟨_, h⟩ | h | h)
          · subst h; exact .inr (.inr (.inr (.inl ⟨rfl, hc⟩)))
          · exact .inr (.inr (.inl (.inl ⟨hc, h⟩)))
          · exact .inr (.inr (.inl (.inr h)))
          · exact .inr (.inr (.inr (.inr h)))
        · rintro (⟨h, _⟩ | ⟨h, _⟩ | (⟨_, h⟩ | h) | (⟨h, _⟩ | h))
          · cases h
          · cases h
          · exact .inr (.inl ⟨rfl, h⟩)
          · exact .inr (.inr (.inl h))
          · exact .inl ⟨rfl, List.eq_nil_of_length_eq_zero h.symm⟩
          · exact .inr (.inr (.inr h))
      · rw [if_pos rfl]
        exact ⟨fun _ => .inr (.inl ⟨rfl, hc⟩), fun _ => rfl⟩
    · rw [if_neg hc, Option.map_eq_none_iff, i2]
      constructor
      · rintro (⟨h, _⟩ | ⟨h, _⟩ | h | h)
        · cases h
        · cases h
        · exact .inr (.inr (.inl (.inr h)))
        · exact .inr (.inr (.inr (.inr h)))
      · rintro (⟨_, h⟩ | ⟨_, h⟩ | (⟨h, _⟩ | h) | (⟨_, h⟩ | h))
        · cases h
        · exact absurd h hc
        · exact absurd h hc
        · exact .inr (.inr (.inl h))
        · exact absurd h hc
        · exact .inr (.inr (.inr h))
theorem ugL_some : ∀ (L : List UInt8) (m : Bool) (l : List UInt8), ugL L m = some l → l = L.filter (fun c => c != 95)
  | [], m, l, h => by
    cases m
    · simp [ugL] at h; subst h; rfl
    · simp [ugL] at h
  | c :: r, m, l, h => by
    unfold ugL at h
    by_cases hc : c = 95
    · rw [if_pos hc] at h
      cases m
      · rw [if_neg (by simp)] at h
        rw [ugL_some r true l h, List.filter_cons, if_neg (by simp [hc])]
      · rw [if_pos rfl] at h; cases h
    · rw [if_neg hc] at h
      obtain ⟨x, h1, h2⟩ := Option.map_eq_some_iff.1 h
      rw [← h2, ugL_some r false x h1, List.filter_cons, if_pos (by simpa using hc)]
theorem okN_iff {x : ByteArray} (h0 : 0 < x.size) (h1 : x.data.toList[0]? ≠ some (95 : UInt8)) : okN x = true ↔ ugL x.data.toList true ≠ none := by
  have hl : x.data.toList.length = x.size := by rw [Array.length_toList]; rfl
  obtain ⟨L, hL⟩ : ∃ L, x.data.toList = L := ⟨_, rfl⟩
  unfold okN
  rw [hL] at h1 hl ⊢
  rw [Ne, ugL_none]
  have hsuf : Lib.hasSuffix L [95] = true ↔ ∃ j : Nat, j + 1 = L.length ∧ L[j]? = some (95 : UInt8) := by
    rw [← Lib.hasSuffix_of_drop]
    have e : L.drop (L.length - ([95] : List UInt8).length) = [L[L.length - 1]'(by omega)] := by
      show L.drop (L.length - 1) = _
      rw [List.drop_eq_getElem_cons (by omega), show L.length - 1 + 1 = L.length by omega, List.drop_length]
    rw [e, Bool.and_eq_true, decide_eq_true_eq, beq_iff_eq]
    constructor
    · intro h
      exact ⟨L.length - 1, by omega, by rw [List.getElem?_eq_getElem (by omega), (List.cons.inj h.2).1]⟩
    · rintro ⟨j, q1, q2⟩
      have : j = L.length - 1 := by omega
      subst this
      rw [List.getElem?_eq_getElem (by omega), Option.some.injEq] at q2
      exact ⟨by show 1 ≤ _; omega, by rw [q2]⟩
  have hocc : ∀ j, Lib.occAt L [95, 95] j = true ↔ L[j]? = some (95 : UInt8) ∧ L[j + 1]? = some (95 : UInt8) := by
    intro j
    unfold Lib.occAt
    rw [List.isPrefixOf_iff_prefix]
    constructor
    · rintro ⟨t, h⟩
      have e0 : (L.drop j)[0]? = some (95 : UInt8) := by rw [← h]; rfl
      have e1 : (L.drop j)[1]? = some (95 : UInt8) := by rw [← h]; rfl
      rw [List.getElem?_drop] at e0 e1
      exact ⟨e0, e1⟩
    · rintro ⟨q1, q2⟩
      obtain ⟨h1, e1⟩ := List.getElem?_eq_some_iff.1 q1
      obtain ⟨h2, e2⟩ := List.getElem?_eq_some_iff.1 q2
      rw [List.drop_eq_getElem_cons h1, List.drop_eq_getElem_cons h2, e1, e2]
      exact ⟨_, rfl⟩
  have hcon : Lib.contains L [95, 95] = true ↔ ∃ j : Nat, L[j]? = some (95 : UInt8) ∧ L[j + 1]? = some (95 : UInt8) := by
    unfold Lib.contains
    rcases Lib.index_spec L [95, 95] with ⟨q1, q2⟩ | ⟨i, q1, q2, q3, _⟩
    · rw [q1]
      simp only [decide_eq_true_eq]
      refine ⟨fun h => absurd h (by omega), fun ⟨j, x1, x2⟩ => ?_⟩
      have hj := (List.getElem?_eq_some_iff.1 x1).1
      have := q2 j (by omega)
      rw [(hocc j).2 ⟨x1, x2⟩] at this
      cases this
    · rw [q1]
      simp only [decide_eq_true_eq]
      exact ⟨fun _ => ⟨i, (hocc i).1 q3⟩, fun _ => by omega⟩
  rw [Bool.not_eq_true', Bool.or_eq_false_iff, Bool.eq_false_iff, Bool.eq_false_iff, Ne, Ne, hsuf, hcon]
  constructor
  · rintro ⟨a, b⟩ (⟨_, h⟩ | ⟨_, h⟩ | h | h)
    · rw [h] at hl; simp at hl; omega
    · exact h1 h
    · exact b h
    · exact a h
  · intro h
    exact ⟨fun a => h (.inr (.inr (.inr a))), fun b => h (.inr (.inr (.inl b)))⟩
theorem mk_selfq (x : ByteArray) : (⟨x.data.toList.toArray⟩ : ByteArray) = x := by cases x; simp
/-- A number's text: digits and marks, the first a digit. -/
def NumT (x : ByteArray) : Prop := 0 < x.size ∧ DgM x.data.toList ∧ x.data.toList[0]? ≠ some (95 : UInt8)
theorem readG25 {w : World} {x : ByteArray} (hx : NumT x) (hs : x.size ≤ 200000000) (hT : Sg w) :
    Calls Tryd.prog 10 #[.string x] w fun e w' => ∃ v, e = .returned (.tuple #[v, .int .i64 (gP x)]) ∧ Below w.heap.size w w' := by
  obtain ⟨h0, h1, h2⟩ := hx
  have hl : x.data.toList.length = x.size := by rw [Array.length_toList]; rfl
  have hA : ∀ c ∈ x.data.toList, c.toNat < 128 := fun c hc => by
    rcases h1 c hc with q | q
    · omega
    · subst q; decide
  have eu : ug x x.size 0 true = ugL x.data.toList true := by
    have e := ug_ascii hA x.size 0 true (by omega)
    rw [mk_selfq, List.drop_zero] at e
    exact e
  have ok := okN_iff h0 h2
  refine (readGrouped_any hs hT).mono fun e w' h => ?_
  unfold gP
  rcases h with ⟨l, e1, h⟩ | ⟨e1, rfl, hb⟩
  · rw [eu] at e1
    rw [if_pos (ok.2 (by rw [e1]; simp))]
    have hl2 := ugL_some _ _ _ e1
    rcases h with ⟨_, zs, a, c, rfl, _, _, _, hb⟩ | ⟨hn, _⟩
    · exact ⟨_, rfl, hb⟩
    · refine absurd ⟨?_, ?_⟩ hn
      · intro hnil
        rw [hnil] at hl2
        obtain ⟨c, r, hcr⟩ : ∃ c r, x.data.toList = c :: r := by
          cases hq : x.data.toList with
          | nil => rw [hq] at hl; simp at hl; omega
          | cons c r => exact ⟨c, r, rfl⟩
        rw [hcr] at hl2 h2
        rw [List.filter_cons, if_pos (by simp at h2; simpa using h2)] at hl2
        cases hl2
      · intro b hb
        rw [hl2, List.mem_filter] at hb
        rcases h1 b hb.1 with q | q
        · unfold dv; rw [if_pos q]; omega
        · rw [q] at hb; exact absurd hb.2 (by decide)
  · rw [eu] at e1
    rw [if_neg (fun q => ok.1 q e1)]
    exact ⟨_, rfl, hb⟩
end Go.Proofs.YtdfnehngffajiabDoor

/- Bh25 -/
namespace Go.Proofs.YtdfnehngffajiabDoor
open Go.RowKit
set_option linter.unusedVariables false

abbrev hash25 : ByteArray := ⟨#[35]⟩
theorem ch_hash : chS hash25 0 = (35, 1) := by decide +kernel
theorem col_hash : ColE hash25 0 1 0 := by
  refine ⟨fun j hj => ?_, .inl ⟨rfl, ?_⟩⟩
  · obtain rfl : j = 0 := by omega
    show 0 < 1 ∧ (chS hash25 0).2 ≠ 0
    rw [ch_hash]
    exact ⟨by omega, by simp⟩
  · show 0 + (chS hash25 0).2 = 1
    rw [ch_hash]
    rfl
/-- In a comment nothing but a bad byte is seen. -/
theorem tkn_hash {b : ByteArray} {g : ByteArray → Int} {k : Nat} {f : Int} (h : ColE b 0 k f) : Tkn (hash25 ++ b) g 0 1 [] (if f = 0 then 0 else ((k + 2 : Nat) : Int)) f := by
  have hc := colE_app col_hash h
  have hch : chS (hash25 ++ b) 0 = (35, 1) := by
    rw [chS_left (by show 0 < 1; omega) (by rw [ch_hash]; simp), ch_hash]
  refine Tkn.stop ?_
  unfold sp25
  rw [if_neg (show ¬ ¬ 0 < (hash25 ++ b).size by rw [app_size]; show ¬ ¬ 0 < 1 + b.size; omega), hch, colK_eq hc, if_neg (by simp), if_neg (by decide), if_pos rfl]
  rcases colE_err h with rfl | rfl
  · rw [if_pos rfl, if_pos rfl]
  · rw [if_neg (by simp), if_neg (by simp)]
    congr 1
    omega
theorem tkn_col {a : ByteArray} {g : ByteArray → Int} (hno : ∀ j, j < a.size → byS a j ≠ 35) {i c : Nat} {La : List Tok} {ca ea : Int} (h : Tkn a g i c La ca ea) : ea = 0 → ∀ m, i = ps a 0 m → gdS a 0 m → ∃ k, ColE a 0 k 0 := by
  induction h with
  | @stop i c ca ea q =>
    intro e m hi hm
    have hle := (hm.le (Nat.zero_le _)).1
    by_cases z : i < a.size
    · exact absurd e (sp25_stop z (no35 hno z) q)
    · exact ⟨m, hm, .inl ⟨rfl, by omega⟩⟩
  | @go i c i' c' t L ca ea q h ih =>
    intro e m hi hm
    obtain ⟨k', e1, e2, e3⟩ := sp25_go2 q
    exact ih e (m + k') (by rw [ps_add, ← hi]; exact e1) (gdS_add hm (by rw [← hi]; exact e3))
/-- Where Tokens tells no fault and no comment stands, every character is sound. -/
theorem tkn_cols {a : ByteArray} {g : ByteArray → Int} (hno : ∀ j, j < a.size → byS a j ≠ 35) {La : List Tok} {ca : Int} (h : Tkn a g 0 1 La ca 0) : ∃ k, ColE a 0 k 0 := tkn_col hno h rfl 0 rfl (gdS.zero a 0)
/-- Two texts with a blank between. -/
theorem tkn_both {a b : ByteArray} {tab : Bool} {g : ByteArray → Int} (hno : ∀ j, j < a.size → byS a j ≠ 35) {La Lb : List Tok} {ca ea cb eb : Int} (h : Tkn a g 0 1 La ca ea) (hb : Tkn b g 0 1 Lb cb eb) :
    (ea ≠ 0 → Tkn (a ++ (gapB tab ++ b)) g 0 1 [] ca ea) ∧ (ea = 0 → ∀ k, ColE a 0 k 0 → Tkn (a ++ (gapB tab ++ b)) g 0 1 (if eb = 0 then La ++ Lb.map (shT (k + 1)) else []) (if eb = 0 then cb else cb + ((k + 1 : Nat) : Int)) eb) := by
  obtain ⟨h1, h2⟩ := tkn_join (b := b) (tab := tab) hno h 0 rfl rfl (gdS.zero a 0)
  exact ⟨h1, fun e k hk => h2 e Lb cb eb hb k hk⟩
end Go.Proofs.YtdfnehngffajiabDoor

/- Bp25 -/
namespace Go.Proofs.YtdfnehngffajiabDoor
open Go.RowKit
set_option linter.unusedVariables false

theorem sp25_stop0 {s : ByteArray} {g : ByteArray → Int} {i c : Nat} {a e : Int} (h : sp25 s g i c = .stop a e) (hi : i ≤ s.size) : (e = 0 → a = 0) ∧ 0 ≤ a ∧ a ≤ (c : Int) + ((s.size - i : Nat) : Int) := by
  unfold sp25 at h
  by_cases h0 : ¬ i < s.size
  · rw [if_pos h0] at h; cases h; omega
  rw [if_neg h0] at h
  have hi : i < s.size := by omega
  by_cases h1 : (chS s i).2 = 0
  · rw [if_pos h1] at h; cases h; omega
  rw [if_neg h1] at h
  by_cases h2 : blkS (chS s i).1 = true
  · rw [if_pos h2] at h; cases h
  rw [if_neg h2] at h
  by_cases h3 : (chS s i).1 = 35
  · rw [if_pos h3] at h
    by_cases h4 : (colK s i).2 = 0
    · rw [if_pos h4] at h; cases h; omega
    · rw [if_neg h4] at h
      cases h
      obtain ⟨k, f, hk⟩ : ∃ k f, ColE s i k f := by
        unfold colK at h4
        by_cases q : ∃ p : Nat × Int, ColE s i p.1 p.2
        · obtain ⟨p, hp⟩ := q; exact ⟨p.1, p.2, hp⟩
        · rw [dif_neg q] at h4; exact absurd rfl h4
      rw [colK_eq hk]
      have := hk.1.le (Nat.le_of_lt hi)
      dsimp only
      omega
  rw [if_neg h3] at h
  by_cases h4 : digS (chS s i).1 = true
  · rw [if_pos h4] at h
    by_cases h5 : g (s.extract i (ps s i (runK s i true))) = 0
    · rw [if_pos h5] at h; cases h
    · rw [if_neg h5] at h; cases h; omega
  rw [if_neg h4] at h
  by_cases h5 : letS (chS s i).1 = true
  · rw [if_pos h5] at h
    by_cases h6 : 32 < ps s i (runK s i false) - i
    · rw [if_pos h6] at h; cases h; omega
    · rw [if_neg h6] at h; cases h
  rw [if_neg h5] at h
  by_cases h6 : mkS (chS s i).1 = ⟨#[]⟩
  · rw [if_pos h6] at h; cases h; omega
  · rw [if_neg h6] at h; cases h
theorem sp25_go3 {s : ByteArray} {g : ByteArray → Int} {i c i' c' : Nat} {t : List Tok} (h : sp25 s g i c = .go i' c' t) : ∀ x ∈ t, x.c = (c : Int) := by
  unfold sp25 at h
  by_cases h0 : ¬ i < s.size
  · rw [if_pos h0] at h; cases h
  rw [if_neg h0] at h
  by_cases h1 : (chS s i).2 = 0
  · rw [if_pos h1] at h; cases h
  rw [if_neg h1] at h
  by_cases h2 : blkS (chS s i).1 = true
  · rw [if_pos h2] at h; cases h; intro x hx; cases hx
  rw [if_neg h2] at h
  by_cases h3 : (chS s i).1 = 35
  · rw [if_pos h3] at h
    by_cases h4 : (colK s i).2 = 0
    · rw [if_pos h4] at h; cases h
    · rw [if_neg h4] at h; cases h
  rw [if_neg h3] at h
  by_cases h4 : digS (chS s i).1 = true
  · rw [if_pos h4] at h
    by_cases h5 : g (s.extract i (ps s i (runK s i true))) = 0
    · rw [if_pos h5] at h; cases h; intro x hx; rw [List.mem_singleton] at hx; rw [hx]
    · rw [if_neg h5] at h; cases h
  rw [if_neg h4] at h
  by_cases h5 : letS (chS s i).1 = true
  · rw [if_pos h5] at h
    by_cases h6 : 32 < ps s i (runK s i false) - i
    · rw [if_pos h6] at h; cases h
    · rw [if_neg h6] at h; cases h; intro x hx; rw [List.mem_singleton] at hx; rw [hx]
  rw [if_neg h5] at h
  by_cases h6 : mkS (chS s i).1 = ⟨#[]⟩
  · rw [if_pos h6] at h; cases h
  · rw [if_neg h6] at h; cases h; intro x hx; rw [List.mem_singleton] at hx; rw [hx]
theorem tkn_bound {s : ByteArray} {g : ByteArray → Int} {i c : Nat} {L : List Tok} {a e : Int} (h : Tkn s g i c L a e) (hi : i ≤ s.size) :
    ((e = 0 → a = 0) ∧ 0 ≤ a ∧ a ≤ (c : Int) + ((s.size - i : Nat) : Int)) ∧ ∀ t ∈ L, 0 ≤ t.c ∧ t.c ≤ (c : Int) + ((s.size - i : Nat) : Int) := by
  induction h with
  | stop q => exact ⟨sp25_stop0 q hi, fun t ht => by cases ht⟩
  | @go i c i' c' t L a e q _ ih =>
    obtain ⟨h1, h2, _⟩ := sp25_go q
    obtain ⟨k, e1, e2, e3⟩ := sp25_go2 q
    obtain ⟨i1, i2⟩ := ih h2
    have hk := e3.le hi
    refine ⟨⟨i1.1, i1.2.1, by have := i1.2.2; omega⟩, fun x hx => ?_⟩
    split at hx
    · rcases List.mem_append.1 hx with hx | hx
      · rw [sp25_go3 q x hx]; omega
      · have := i2 x hx; omega
    · cases hx
/-- The tokens of a line with n bytes: how many, and where. -/
theorem tkn_all {s : ByteArray} {g : ByteArray → Int} {L : List Tok} {a e : Int} (h : Tkn s g 0 1 L a e) (hs : s.size ≤ 4194300) : L.length ≤ 4194304 ∧ (e = 0 → a = 0) ∧ 0 ≤ a ∧ a ≤ 4194304 ∧ ∀ j (q : j < L.length), 0 ≤ L[j].c ∧ L[j].c ≤ 4194304 := by
  have h1 := tkn_le h (Nat.zero_le _)
  obtain ⟨⟨h2, h3, h4⟩, h5⟩ := tkn_bound h (Nat.zero_le _)
  refine ⟨by omega, h2, h3, by omega, fun j q => ?_⟩
  have := h5 _ (List.getElem_mem q)
  omega
end Go.Proofs.YtdfnehngffajiabDoor
