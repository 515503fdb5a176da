/-
  Divides: the walk of DivnatDivides.
-/
import Derived.Test.YtgoldbnjdghmeaaRight3
namespace Go.Proofs.Ytgoldbnjdghmeaa
open Go.RowKit
set_option linter.unusedVariables false

def SpecW (xs : List Int) (W : Int) : Spec3 := fun qs rs r N E => rs = [] ∧ N = 0 ∧ ((W = 0 ∧ qs = [] ∧ r = 0 ∧ E = 4) ∨ (0 < W ∧ Canon qs ∧ IsW r ∧ r < W ∧ val xs = W * val qs + r ∧ E = 0))
def SpecD (xs ys : List Int) : Spec3 := fun qs rs r N E => r = 0 ∧ N = 0 ∧ ((wid ys = 0 ∧ qs = [] ∧ rs = [] ∧ E = 4) ∨ (wid ys ≠ 0 ∧ Canon qs ∧ Canon rs ∧ val xs = val ys * val qs + val rs ∧ val rs < val ys ∧ E = 0))
def SpecE (xs ys : List Int) : Spec3 := fun qs rs r N E => rs = [] ∧ r = 0 ∧ N = 0 ∧ ((wid ys = 0 ∧ qs = [] ∧ E = 4) ∨ (wid ys ≠ 0 ∧ ∃ q0 r0, Canon q0 ∧ Canon r0 ∧ val xs = val ys * val q0 + val r0 ∧ val r0 < val ys ∧ ((r0 = [] ∧ qs = q0 ∧ E = 0) ∨ (r0 ≠ [] ∧ qs = [] ∧ E = 8))))
theorem div_lists {X Y : Int} {qs rs qs' rs' : List Int} (h : Canon qs) (k : Canon rs) (h' : Canon qs') (k' : Canon rs') (e : X = Y * val qs + val rs) (l : val rs < Y) (e' : X = Y * val qs' + val rs') (l' : val rs' < Y) : qs' = qs ∧ rs' = rs := by
  obtain ⟨a, b⟩ := div_one e e' (val_nonneg k.1) l (val_nonneg k'.1) l'
  exact ⟨canon_inj h' h a, canon_inj k' k b⟩
theorem specW_one (xs : List Int) (W : Int) : OneAnswer (SpecW xs W) := by
  rintro qs rs r N E qs' rs' r' N' E' ⟨rfl, rfl, h⟩ ⟨rfl, rfl, h'⟩
  rcases h with ⟨h0, rfl, rfl, rfl⟩ | ⟨h0, h1, h2, h3, h4, rfl⟩ <;> rcases h' with ⟨g0, rfl, rfl, rfl⟩ | ⟨g0, g1, g2, g3, g4, rfl⟩
  · exact ⟨rfl, rfl, rfl, rfl, rfl⟩
  · omega
  · omega
  · obtain ⟨a, b⟩ := div_one h4 g4 h2.1 h3 g2.1 g3
    exact ⟨canon_inj g1 h1 a, rfl, b, rfl, rfl⟩
theorem specD_one (xs ys : List Int) : OneAnswer (SpecD xs ys) := by
  rintro qs rs r N E qs' rs' r' N' E' ⟨rfl, rfl, h⟩ ⟨rfl, rfl, h'⟩
  rcases h with ⟨h0, rfl, rfl, rfl⟩ | ⟨h0, h1, h2, h3, h4, rfl⟩ <;> rcases h' with ⟨g0, rfl, rfl, rfl⟩ | ⟨g0, g1, g2, g3, g4, rfl⟩
  · exact ⟨rfl, rfl, rfl, rfl, rfl⟩
  · exact absurd h0 g0
  · exact absurd g0 h0
  · obtain ⟨a, b⟩ := div_lists h1 h2 g1 g2 h3 h4 g3 g4
    exact ⟨a, b, rfl, rfl, rfl⟩
theorem specE_one (xs ys : List Int) : OneAnswer (SpecE xs ys) := by
  rintro qs rs r N E qs' rs' r' N' E' ⟨rfl, rfl, rfl, h⟩ ⟨rfl, rfl, rfl, h'⟩
  rcases h with ⟨h0, rfl, rfl⟩ | ⟨h0, q0, r0, h1, h2, h3, h4, h5⟩ <;> rcases h' with ⟨g0, rfl, rfl⟩ | ⟨g0, q1, r1, g1, g2, g3, g4, g5⟩
  · exact ⟨rfl, rfl, rfl, rfl, rfl⟩
  · exact absurd h0 g0
  · exact absurd g0 h0
  · obtain ⟨rfl, rfl⟩ := div_lists h1 h2 g1 g2 h3 h4 g3 g4
    rcases h5 with ⟨a, rfl, rfl⟩ | ⟨a, rfl, rfl⟩ <;> rcases g5 with ⟨b, rfl, rfl⟩ | ⟨b, rfl, rfl⟩
    · exact ⟨rfl, rfl, rfl, rfl, rfl⟩
    · exact absurd a b
    · exact absurd b a
    · exact ⟨rfl, rfl, rfl, rfl, rfl⟩

theorem right_divMod {w : World} {va vb : Value} {xs ys : List Int} {W K : Int} (ha : Sl w.heap.size w va xs) (hb : Sl w.heap.size w vb ys) (la : xs.length ≤ 1099511627776) (lb : ys.length ≤ 1099511627776) :
    Calls Try.prog 12 #[.agg #[.int .i64 2, va, vb, .int .u64 W, .int .i64 K]] w fun e w' => e = .returned (.bool true) ∧ Below w.heap.size w w' := by
  refine right3_any ha hb (specD_one xs ys) (fun w' a b => ?_) (fun w' a b => ?_)
  · by_cases h0 : wid ys = 0
    · exact (wants2_zero a b la lb h0).mono fun e w'' h => ⟨[], [], 0, 0, 4, ⟨rfl, rfl, .inl ⟨h0, rfl, rfl, rfl⟩⟩, h⟩
    · exact (wants2_any a b la lb h0).mono fun e w'' ⟨qs, rs, h1, h2, h3, h4, h⟩ => ⟨qs, rs, 0, 0, 0, ⟨rfl, rfl, .inr ⟨h0, h1, h2, h3, h4, rfl⟩⟩, h⟩
  · by_cases h0 : wid ys = 0
    · exact (plays2_zero a b la lb h0).mono fun e w'' h => ⟨[], [], 0, 0, 4, ⟨rfl, rfl, .inl ⟨h0, rfl, rfl, rfl⟩⟩, h⟩
    · exact (plays2_any a b la lb h0).mono fun e w'' ⟨qs, rs, h1, h2, h3, h4, h⟩ => ⟨qs, rs, 0, 0, 0, ⟨rfl, rfl, .inr ⟨h0, h1, h2, h3, h4, rfl⟩⟩, h⟩
theorem right_exact {w : World} {va vb : Value} {xs ys : List Int} {W K : Int} (ha : Sl w.heap.size w va xs) (hb : Sl w.heap.size w vb ys) (la : xs.length ≤ 1099511627776) (lb : ys.length ≤ 1099511627776) :
    Calls Try.prog 12 #[.agg #[.int .i64 3, va, vb, .int .u64 W, .int .i64 K]] w fun e w' => e = .returned (.bool true) ∧ Below w.heap.size w w' := by
  have key : ∀ (w' w'' : World) (e : Ending), wid ys ≠ 0 → (∃ qs rs, Canon qs ∧ Canon rs ∧ val xs = val ys * val qs + val rs ∧ val rs < val ys ∧ ((rs = [] ∧ Ans3 w' qs [] 0 0 0 e w'') ∨ (rs ≠ [] ∧ Ans3 w' [] [] 0 0 8 e w''))) → Answers (SpecE xs ys) w' e w'' := fun w' w'' e h0 ⟨qs, rs, h1, h2, h3, h4, h⟩ => by
    rcases h with ⟨hr, h⟩ | ⟨hr, h⟩
    · exact ⟨qs, [], 0, 0, 0, ⟨rfl, rfl, rfl, .inr ⟨h0, qs, rs, h1, h2, h3, h4, .inl ⟨hr, rfl, rfl⟩⟩⟩, h⟩
    · exact ⟨[], [], 0, 0, 8, ⟨rfl, rfl, rfl, .inr ⟨h0, qs, rs, h1, h2, h3, h4, .inr ⟨hr, rfl, rfl⟩⟩⟩, h⟩
  refine right3_any ha hb (specE_one xs ys) (fun w' a b => ?_) (fun w' a b => ?_)
  · by_cases h0 : wid ys = 0
    · exact (wants3_zero a b la lb h0).mono fun e w'' h => ⟨[], [], 0, 0, 4, ⟨rfl, rfl, rfl, .inl ⟨h0, rfl, rfl⟩⟩, h⟩
    · exact (wants3_any a b la lb h0).mono fun e w'' h => key w' w'' e h0 h
  · by_cases h0 : wid ys = 0
    · exact (plays3_zero a b la lb h0).mono fun e w'' h => ⟨[], [], 0, 0, 4, ⟨rfl, rfl, rfl, .inl ⟨h0, rfl, rfl⟩⟩, h⟩
    · exact (plays3_any a b la lb h0).mono fun e w'' h => key w' w'' e h0 h
theorem right_word {w : World} {va vb : Value} {xs ys : List Int} {W K : Int} (ha : Sl w.heap.size w va xs) (hb : Sl w.heap.size w vb ys) (la : xs.length ≤ 1099511627776) (lb : ys.length ≤ 1099511627776) (hW : IsW W) :
    Calls Try.prog 12 #[.agg #[.int .i64 1, va, vb, .int .u64 W, .int .i64 K]] w fun e w' => e = .returned (.bool true) ∧ Below w.heap.size w w' := by
  have hW0 := hW.1
  refine right3_any ha hb (specW_one xs W) (fun w' a b => ?_) (fun w' a b => ?_)
  · by_cases h0 : W = 0
    · exact (wants1_zero a b la lb h0).mono fun e w'' h => ⟨[], [], 0, 0, 4, ⟨rfl, rfl, .inl ⟨h0, rfl, rfl, rfl⟩⟩, h⟩
    · exact (wants1_any a b la lb hW (by omega)).mono fun e w'' ⟨qs, r, h1, h2, h3, h4, h⟩ => ⟨qs, [], r, 0, 0, ⟨rfl, rfl, .inr ⟨by omega, h1, h2, h3, h4, rfl⟩⟩, h⟩
  · by_cases h0 : W = 0
    · exact (plays1_zero a b la lb h0).mono fun e w'' h => ⟨[], [], 0, 0, 4, ⟨rfl, rfl, .inl ⟨h0, rfl, rfl, rfl⟩⟩, h⟩
    · exact (plays1_any a b la lb hW (by omega)).mono fun e w'' ⟨qs, r, h1, h2, h3, h4, h⟩ => ⟨qs, [], r, 0, 0, ⟨rfl, rfl, .inr ⟨by omega, h1, h2, h3, h4, rfl⟩⟩, h⟩

set_option maxHeartbeats 1600000 in
theorem divnatDivides_any {w : World} {va vb : Value} {xs ys : List Int} {W : Int} (ha : Sl w.heap.size w va xs) (hb : Sl w.heap.size w vb ys) (hW : IsW W) (lx : xs.length ≤ 1048576) (ly : ys.length ≤ 1048576) :
    Calls Try.prog 4 #[va, vb, .int .u64 W] w fun e w' => e = .returned (.bool true) ∧ Below w.heap.size w w' := by
  have HA0 := hid ha
  have HB0 := hid hb
  have HW := wakes3_any w
  obtain ⟨aa, ca, rfl⟩ : ∃ a c, va = .slice a xs.length c := by obtain ⟨_, a, c, e, _⟩ := ha; exact ⟨a, c, e⟩
  obtain ⟨ab, cb, rfl⟩ : ∃ a c, vb = .slice a ys.length c := by obtain ⟨_, a, c, e, _⟩ := hb; exact ⟨a, c, e⟩
  clear ha hb
  go_enter Try.func4, Try.ntmps4
  go_wp2_with fail
  refine HW.mono ?_
  rintro e w1 ⟨rfl, b1⟩
  have B1 := hid b1
  have H2 := hid (right_divMod (W := 0) (K := 0) (HA0.out.now b1) (HB0.out.now b1) (by omega) (by omega))
  clear HW b1
  go_wp2_with fail
  refine H2.out.mono ?_
  rintro e w2 ⟨rfl, b2⟩
  have B2 := hid (below_step B1.out b2)
  have H3 := hid (right_exact (W := 0) (K := 0) (HA0.out.now B2.out) (HB0.out.now B2.out) (by omega) (by omega))
  clear H2 b2
  go_wp2_with fail
  refine H3.out.mono ?_
  rintro e w3 ⟨rfl, b3⟩
  have B3 := hid (below_step B2.out b3)
  have H1 := hid (right_word (W := W) (K := 0) (HA0.out.now B3.out) (Sl.nil w3) (by omega) (by simp) hW)
  clear H3 b3
  go_wp2_with fail
  refine H1.out.mono ?_
  rintro e w4 ⟨rfl, b4⟩
  have B4 := hid (below_step B3.out b4)
  clear H1 b4
  go_wp2
  go_ret
  exact ⟨rfl, B4.out⟩
end Go.Proofs.Ytgoldbnjdghmeaa
