/-
  Pq25: texts that are put together of characters; what tokens they hold.
-/
import Derived.Test.YtdfnehngffajiabDoorQBj25
import Derived.Test.YtdfnehngffajiabDoorQBs25ToBt25
namespace Go.Proofs.YtdfnehngffajiabDoor
open Go.RowKit
set_option linter.unusedVariables false

/-- A text that is one character. -/
def Ch1 (p : ByteArray) : Prop := 0 < p.size ∧ (chS p 0).2 = p.size
def catB : List ByteArray → ByteArray
  | [] => ⟨#[]⟩
  | p :: r => p ++ catB r
theorem nil_app (x : ByteArray) : (⟨#[]⟩ : ByteArray) ++ x = x := by
  apply ByteArray.ext
  rw [ByteArray.data_append]
  simp
theorem app_nil (x : ByteArray) : x ++ (⟨#[]⟩ : ByteArray) = x := by
  apply ByteArray.ext
  rw [ByteArray.data_append]
  simp
theorem catB_app : ∀ L M : List ByteArray, catB (L ++ M) = catB L ++ catB M
  | [], M => (nil_app _).symm
  | p :: r, M => by show p ++ catB (r ++ M) = (p ++ catB r) ++ catB M; rw [catB_app r M, ByteArray.append_assoc]
theorem catB_next {L : List ByteArray} {k : Nat} (h : k < L.length) : catB (L.take (k + 1)) = catB (L.take k) ++ L[k] := by
  rw [List.take_succ_eq_append_getElem h, catB_app]
  congr 1
  exact app_nil _
theorem catB_size {m : Nat} : ∀ L : List ByteArray, (∀ p ∈ L, p.size ≤ m) → (catB L).size ≤ m * L.length
  | [], _ => Nat.zero_le _
  | p :: r, h => by
    have h1 := catB_size r fun q hq => h q (List.mem_cons_of_mem _ hq)
    have h2 := h p (List.mem_cons_self ..)
    show (p ++ catB r).size ≤ m * (r.length + 1)
    rw [app_size, Nat.mul_succ]
    omega
theorem ch1_at {a p r : ByteArray} (h : Ch1 p) : chS (a ++ (p ++ r)) a.size = ((chS p 0).1, p.size) := by
  have e := @chS_right a (p ++ r) 0 (by rw [app_size]; have := h.1; omega)
  rw [Nat.add_zero] at e
  rw [e, chS_left h.1 (by have := h.1; rw [h.2]; omega)]
  exact Prod.ext rfl h.2
theorem pcs_run {n : Bool} {r : ByteArray} : ∀ (L : List ByteArray) (a : ByteArray), (∀ p ∈ L, Ch1 p ∧ okC n (chS p 0).1 = true) →
    gdS (a ++ (catB L ++ r)) a.size L.length ∧ (∀ j, j < L.length → okC n (chS (a ++ (catB L ++ r)) (ps (a ++ (catB L ++ r)) a.size j)).1 = true) ∧ ps (a ++ (catB L ++ r)) a.size L.length = a.size + (catB L).size
  | [], a, _ => ⟨gdS.zero _ _, fun j h => absurd h (Nat.not_lt_zero j), rfl⟩
  | p :: L, a, h => by
    obtain ⟨h1, h2⟩ := h p (List.mem_cons_self ..)
    have hch : chS (a ++ (catB (p :: L) ++ r)) a.size = ((chS p 0).1, p.size) := by
      show chS (a ++ ((p ++ catB L) ++ r)) a.size = _
      rw [ByteArray.append_assoc]
      exact ch1_at h1
    obtain ⟨i1, i2, i3⟩ := pcs_run (r := r) L (a ++ p) fun q hq => h q (List.mem_cons_of_mem _ hq)
    have e : (a ++ p) ++ (catB L ++ r) = a ++ (catB (p :: L) ++ r) := by
      show _ = a ++ ((p ++ catB L) ++ r)
      rw [ByteArray.append_assoc, ByteArray.append_assoc]
    rw [e, app_size] at i1 i2 i3
    have hsz : (catB (p :: L)).size = p.size + (catB L).size := app_size _ _
    have hs : a.size < (a ++ (catB (p :: L) ++ r)).size := by rw [app_size, app_size, hsz]; have := h1.1; omega
    generalize a ++ (catB (p :: L) ++ r) = s at *
    have e1 : ps s a.size 1 = a.size + p.size := by show a.size + (chS s a.size).2 = _; rw [hch]
    rw [← e1] at i1 i2 i3
    have g1 : gdS s a.size 1 := gdS_one hs (by rw [hch]; have := h1.1; simp only; omega)
    refine ⟨?_, fun j hj => ?_, ?_⟩
    · rw [List.length_cons, Nat.add_comm]
      exact gdS_add g1 i1
    · rcases Nat.eq_zero_or_pos j with q | q
      · subst q
        show okC n (chS s a.size).1 = true
        rw [hch]
        exact h2
      · obtain ⟨i, rfl⟩ : ∃ i, j = 1 + i := ⟨j - 1, by omega⟩
        rw [ps_add]
        exact i2 i (by simp only [List.length_cons] at hj; omega)
    · rw [List.length_cons, Nat.add_comm, ps_add, i3, e1, hsz]
      omega
theorem pcs_runE {n : Bool} {r : ByteArray} {L : List ByteArray} (h : ∀ p ∈ L, Ch1 p ∧ okC n (chS p 0).1 = true) (hr : ¬ (0 < r.size ∧ (chS r 0).2 ≠ 0 ∧ okC n (chS r 0).1 = true)) :
    RunE (catB L ++ r) 0 n L.length ∧ ps (catB L ++ r) 0 L.length = (catB L).size := by
  have q := pcs_run (r := r) L ⟨#[]⟩ h
  rw [nil_app] at q
  obtain ⟨q1, q2, q3⟩ := q
  have z : (⟨#[]⟩ : ByteArray).size = 0 := rfl
  rw [z] at q1 q2 q3
  rw [Nat.zero_add] at q3
  refine ⟨⟨q1, q2, fun w => hr ?_⟩, q3⟩
  rw [q3] at w
  obtain ⟨w1, w2, w3⟩ := w
  rw [app_size] at w1
  have h0 : 0 < r.size := by omega
  have e := @chS_right (catB L) r 0 h0
  rw [Nat.add_zero] at e
  rw [e] at w2 w3
  exact ⟨h0, w2, w3⟩
theorem ext0_left (a b : ByteArray) : (a ++ b).extract 0 a.size = a := by
  apply ByteArray.ext
  rw [ByteArray.data_extract, ByteArray.data_append]
  have : a.size = a.data.size := rfl
  rw [this]
  simp
theorem first_at {p : ByteArray} {L : List ByteArray} {r : ByteArray} (h : Ch1 p) : chS (catB (p :: L) ++ r) 0 = ((chS p 0).1, p.size) ∧ 0 < (catB (p :: L) ++ r).size := by
  have e := @ch1_at ⟨#[]⟩ p (catB L ++ r) h
  rw [nil_app] at e
  have a : catB (p :: L) ++ r = p ++ (catB L ++ r) := ByteArray.append_assoc ..
  rw [a]
  exact ⟨e, by rw [app_size]; have := h.1; omega⟩
/-- A name, from its first letter on. -/
theorem sp25_name {p : ByteArray} {L : List ByteArray} {r : ByteArray} {g : ByteArray → Int} (h : ∀ q ∈ p :: L, Ch1 q ∧ okC false (chS q 0).1 = true) (h1 : letS (chS p 0).1 = true) (h2 : digS (chS p 0).1 = false) (h3 : blkS (chS p 0).1 = false) (h4 : (chS p 0).1 ≠ 35)
    (hr : ¬ (0 < r.size ∧ (chS r 0).2 ≠ 0 ∧ okC false (chS r 0).1 = true)) :
    sp25 (catB (p :: L) ++ r) g 0 1 = if 32 < (catB (p :: L)).size then .stop 1 17 else .go (catB (p :: L)).size (1 + (L.length + 1)) [⟨2, catB (p :: L), 1⟩] := by
  obtain ⟨f1, f2⟩ := first_at (L := L) (r := r) (h p (List.mem_cons_self ..)).1
  obtain ⟨r1, r2⟩ := pcs_runE h hr
  have hp := (h p (List.mem_cons_self ..)).1.1
  have e := runK_eq r1
  rw [List.length_cons] at e r2
  unfold sp25
  rw [if_neg (show ¬ ¬ 0 < (catB (p :: L) ++ r).size by omega), f1, if_neg (by simp only; omega), if_neg (by simp only [h3]; decide), if_neg h4, if_neg (by simp only [h2]; decide), if_pos h1, e, r2, ext0_left, Nat.sub_zero]
  rfl
/-- A number, from its first digit on. -/
theorem sp25_num {p : ByteArray} {L : List ByteArray} {r : ByteArray} {g : ByteArray → Int} (h : ∀ q ∈ p :: L, Ch1 q ∧ okC true (chS q 0).1 = true) (h2 : digS (chS p 0).1 = true) (h3 : blkS (chS p 0).1 = false) (h4 : (chS p 0).1 ≠ 35)
    (hr : ¬ (0 < r.size ∧ (chS r 0).2 ≠ 0 ∧ okC true (chS r 0).1 = true)) :
    sp25 (catB (p :: L) ++ r) g 0 1 = if g (catB (p :: L)) = 0 then .go (catB (p :: L)).size (1 + (L.length + 1)) [⟨1, catB (p :: L), 1⟩] else .stop 1 7 := by
  obtain ⟨f1, f2⟩ := first_at (L := L) (r := r) (h p (List.mem_cons_self ..)).1
  obtain ⟨r1, r2⟩ := pcs_runE h hr
  have hp := (h p (List.mem_cons_self ..)).1.1
  have e := runK_eq r1
  rw [List.length_cons] at e r2
  unfold sp25
  rw [if_neg (show ¬ ¬ 0 < (catB (p :: L) ++ r).size by omega), f1, if_neg (by simp only; omega), if_neg (by simp only [h3]; decide), if_neg h4, if_pos h2, e, r2, ext0_left]
  rfl
/-- Blanks ahead of a line. -/
theorem tkn_pad {b : ByteArray} {g : ByteArray → Int} {T : List Tok} {a e : Int} (h : Tkn b g 0 1 T a e) (hT : e ≠ 0 → T = []) : ∀ P : List ByteArray, (∀ p ∈ P, Ch1 p ∧ blkS (chS p 0).1 = true) →
    Tkn (catB P ++ b) g 0 1 (T.map (shT P.length)) (if e = 0 then a else a + (P.length : Int)) e
  | [], _ => by
    have e1 : T.map (shT 0) = T := by
      refine (List.map_congr_left fun t _ => ?_).trans (List.map_id T)
      show (⟨t.k, t.x, t.c + ((0 : Nat) : Int)⟩ : Tok) = t
      simp
    show Tkn ((⟨#[]⟩ : ByteArray) ++ b) g 0 1 (T.map (shT 0)) (if e = 0 then a else a + ((0 : Nat) : Int)) e
    rw [nil_app, e1]
    have : (if e = 0 then a else a + ((0 : Nat) : Int)) = a := by split <;> simp
    rw [this]
    exact h
  | p :: P, hP => by
    obtain ⟨h1, h2⟩ := hP p (List.mem_cons_self ..)
    have ih := tkn_pad h hT P fun q hq => hP q (List.mem_cons_of_mem _ hq)
    have st := tkn_at (p := p) 1 ih (Nat.zero_le _)
    rw [Nat.add_zero] at st
    have asc : catB (p :: P) ++ b = p ++ (catB P ++ b) := ByteArray.append_assoc ..
    obtain ⟨f1, f2⟩ := first_at (L := P) (r := b) h1
    have hg : sp25 (catB (p :: P) ++ b) g 0 1 = .go p.size 2 [] := by
      unfold sp25
      rw [if_neg (show ¬ ¬ 0 < (catB (p :: P) ++ b).size by omega), f1, if_neg (by have := h1.1; simp only; omega), if_pos h2]
      simp
    rw [← asc] at st
    have fin := Tkn.go hg st
    have q1 : (if e = 0 then ([] : List Tok) ++ ((T.map (shT P.length)).map (shT 1)) else []) = T.map (shT (p :: P).length) := by
      split
      · rw [List.nil_append, List.map_map]
        refine List.map_congr_left fun t _ => ?_
        show (⟨t.k, t.x, t.c + (P.length : Int) + ((1 : Nat) : Int)⟩ : Tok) = ⟨t.k, t.x, t.c + ((P.length + 1 : Nat) : Int)⟩
        congr 1
        omega
      · rename_i q
        rw [hT q]
        rfl
    have q2 : (if e = 0 then (if e = 0 then a else a + (P.length : Int)) else (if e = 0 then a else a + (P.length : Int)) + ((1 : Nat) : Int)) = if e = 0 then a else a + ((p :: P).length : Int) := by
      split
      · rfl
      · show a + (P.length : Int) + ((1 : Nat) : Int) = a + ((P.length + 1 : Nat) : Int)
        omega
    rw [q1, q2] at fin
    exact fin
end Go.Proofs.YtdfnehngffajiabDoor
