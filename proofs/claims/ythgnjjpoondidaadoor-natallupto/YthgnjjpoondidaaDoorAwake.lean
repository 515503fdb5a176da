/-
  Awake: what a program that does nothing does not answer.
-/
import Derived.Test.YthgnjjpoondidaaDoorLen
import Derived.Test.YthgnjjpoondidaaDoorAdd
namespace Go.Proofs.YthgnjjpoondidaaDoor
open Go.RowKit

theorem Row.new (w : World) (xs : List Int) : Row (w.alloc (.cells (ws xs).toArray 48)) w.heap.size (ws xs) := heap_alloc_new w _
theorem Row.new_sl (w : World) (xs : List Int) (hx : WF xs) (h : xs.length ≤ 35184372088832) : Sl (w.heap.size + 1) (w.alloc (.cells (ws xs).toArray 48)) (.slice (some ⟨w.heap.size, 0, none⟩) xs.length xs.length) xs := by
  exact Row.sl (r := []) (by simpa using Row.new w xs) hx (Nat.le_refl _) h (Nat.lt_succ_self _)
theorem Sl.alloc {w : World} {B : Nat} {v : Value} {xs : List Int} (h : Sl B w v xs) (hB : B ≤ w.heap.size) (o : Obj) : Sl B (w.alloc o) v xs :=
  h.below (B' := w.heap.size) ((Below.refl _ _).alloc (Nat.le_refl _) o) hB

theorem wf_word {x : Int} {r : List Int} (h : 0 ≤ x ∧ x ≤ 18446744073709551615) (hr : WF r) : WF (x :: r) := WF.cons (by unfold IsW wB; omega) hr

theorem awake_sum {zs : List Int} (h : Canon zs) (hv : val zs = val [18446744073709551615] + val [1, 0]) : zs = [0, 1] :=
  canon_inj h ⟨wf_word (by omega) (wf_word (by omega) WF.nil), rfl⟩ (by rw [hv]; decide +kernel)

/-- A list that the call itself writes down, in the last block. -/
theorem lit_last (w : World) (xs : List Int) (cs : Array Value) (hcs : cs = (ws xs).toArray) (hx : WF xs) (h : xs.length ≤ 35184372088832) (n : Nat) (hn : n = xs.length) :
    Sl (w.alloc (.cells cs 48)).heap.size (w.alloc (.cells cs 48)) (.slice (some ⟨w.heap.size, 0, none⟩) n n) xs := by
  subst hcs
  subst hn
  exact (Row.new_sl w xs hx h).mono (by simp)
/-- A list that lay there before. -/
theorem Sl.later {w : World} {v : Value} {xs : List Int} (h : Sl w.heap.size w v xs) (o : Obj) : Sl (w.alloc o).heap.size (w.alloc o) v xs := (h.alloc (Nat.le_refl _) o).mono (by simp)
theorem Sl.now {w w' : World} {v : Value} {xs : List Int} (h : Sl w.heap.size w v xs) (hb : Below w.heap.size w w') : Sl w'.heap.size w' v xs := (h.below hb (Nat.le_refl _)).mono hb.size
/-- The answer of Add as a slice. -/
theorem added_sl {w w' : World} {s : Int} {k : Nat} {e : Ending} (h : Added w s k e w') : ∃ zs v, e = .returned v ∧ Sl w'.heap.size w' v zs ∧ Canon zs ∧ val zs = s ∧ zs.length ≤ k ∧ Below w.heap.size w w' := by
  obtain ⟨zs, cap, r, rfl, hc, hv, hk, hl, hm, hr, hb, hs⟩ := h
  exact ⟨zs, _, rfl, hr.sl hc.1 hl hm hs, hc, hv, hk, hb⟩

set_option maxHeartbeats 800000 in
theorem awake_any (w : World) : Calls Tryd.prog 8 #[] w fun e w' => e = .returned (.bool true) ∧ Below w.heap.size w w' := by
  go_enter Tryd.func8, Tryd.ntmps8
  go_wp2_with fail
  refine (add_any (xs := [18446744073709551615]) (ys := [1, 0]) ?_ ?_ (by simp) (by simp)).mono ?_
  · exact (lit_last w [18446744073709551615] _ rfl (wf_word (by omega) WF.nil) (by simp) 1 rfl).later _
  · have := lit_last (w.alloc (.cells #[.int .u64 18446744073709551615] 48)) [1, 0] #[.int .u64 1, .int .u64 0] rfl (wf_word (by omega) (wf_word (by omega) WF.nil)) (by simp) 2 rfl
    simpa using this
  rintro e w1 hadd
  obtain ⟨zs, v, rfl, hsl, hc, hv, _, hb⟩ := added_sl hadd
  obtain rfl := awake_sum hc hv
  have hb1 : Below w.heap.size w w1 := ((((Below.refl _ _).alloc (Nat.le_refl _) _).alloc (by simp) _).trans (hb.mono (by simp; omega)))
  clear hadd hc hv hb
  go_wp2_with fail
  refine (same_any (B := w1.heap.size + 1) (hsl.alloc (Nat.le_refl _) _ |>.mono (by omega)) (xs := [0, 1]) (ys := [0, 1]) ?_).mono ?_
  · have := lit_last w1 [0, 1] #[.int .u64 0, .int .u64 1] rfl (wf_word (by omega) (wf_word (by omega) WF.nil)) (by simp) 2 rfl
    simpa using this
  rintro e w2 ⟨rfl, n, rfl⟩
  rw [same_self]
  have hb2 : Below w.heap.size w ((w1.alloc (.cells #[.int .u64 0, .int .u64 1] 48)).drewN n) := below_drewN (hb1.alloc hb1.size _) n
  clear hsl
  generalize ((w1.alloc (.cells #[.int .u64 0, .int .u64 1] 48)).drewN n) = w2 at *
  go_wp2_with fail
  refine (bitLen_04 (B := w2.heap.size + 1) ?_).mono ?_
  · have := lit_last w2 [0, 4] #[.int .u64 0, .int .u64 4] rfl (wf_word (by omega) (wf_word (by omega) WF.nil)) (by simp) 2 rfl
    simpa using this
  rintro e w3 ⟨rfl, rfl⟩
  go_wp2
  go_ret
  exact ⟨rfl, hb2.alloc hb2.size _⟩
end Go.Proofs.YthgnjjpoondidaaDoor
