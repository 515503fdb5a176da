/-
  Ones: the calls of the layers below, as integers want them; what a call that answers an integer leaves.
-/
import Derived.Test.YtachdicdfhfoaaaQZedToSigned
namespace Go.Proofs.Ytachdicdfhfoaaa
open Go.RowKit
set_option linter.unusedVariables false

/-- A call that makes a list of its own, in least form. -/
def Mk (w : World) (s : Int) (k : Nat) (e : Ending) (w' : World) : Prop :=
  ∃ zs a c, e = .returned (.slice a zs.length c) ∧ Mine w.heap.size w' (.slice a zs.length c) zs ∧ Canon zs ∧ val zs = s ∧ zs.length ≤ k ∧ Below w.heap.size w w'
theorem mine_rest {B : Nat} {w : World} {g : Nat} {zs : List Int} {r : List Value} {cap : Nat} (hB : B ≤ g) (hw : WF zs) (hc : cap = zs.length + r.length) (hm : cap ≤ 35184372088832) (hr : Row w g (ws zs ++ r)) : Mine B w (.slice (some ⟨g, 0, none⟩) zs.length cap) zs :=
  ⟨hw, .inr ⟨g, r, cap, hB, by omega, by omega, .inr ⟨hc, by unfold maxLen; omega⟩, rfl, hr⟩⟩
theorem least_m {w : World} {v : Value} {xs : List Int} (h : Sl w.heap.size w v xs) : Calls Try.prog 58 #[v] w (Mk w (val xs) xs.length) :=
  (least_any h).mono fun e w' ⟨h1, h2, h3, h4⟩ => by
    have hx := h.1
    obtain ⟨_, a, cap, _, h6, h7, _⟩ := h
    have := wid_le xs
    have hl := length_lst xs
    refine ⟨lst xs, some ⟨w.heap.size, 0, none⟩, wid xs, by rw [h1, hl], ?_, canon_lst hx, val_lst xs, by omega, h3⟩
    exact mine_rest (r := []) (Nat.le_refl _) (canon_lst hx).1 (by simp [hl]) (by omega) (by simpa using h2)
theorem add_m {w : World} {v u : Value} {xs ys : List Int} (h : Sl w.heap.size w v xs) (h' : Sl w.heap.size w u ys) (hl : xs.length < 35184372088832) (hl' : ys.length < 35184372088832) :
    Calls Try.prog 77 #[v, u] w (Mk w (val xs + val ys) (max xs.length ys.length + 1)) :=
  (add_any h h' hl hl').mono fun e w' hadd => by
    obtain ⟨zs, cap, r, rfl, hc, hv, hk, hcap, hm, hr, hb, hs⟩ := hadd
    have := wid_le xs
    have := wid_le ys
    exact ⟨zs, _, cap, rfl, mine_rest (Nat.le_refl _) hc.1 hcap hm hr, hc, hv, by omega, hb⟩
theorem sub_m {w : World} {v u : Value} {xs ys : List Int} (h : Sl w.heap.size w v xs) (h' : Sl w.heap.size w u ys) (hge : val ys ≤ val xs) :
    Calls Try.prog 79 #[v, u] w fun e w' => ∃ zs a c, e = .returned (.tuple #[.slice a zs.length c, .int .i64 0]) ∧ Mine w.heap.size w' (.slice a zs.length c) zs ∧ Canon zs ∧ val zs = val xs - val ys ∧ zs.length ≤ xs.length ∧ Below w.heap.size w w' :=
  (sub_yes h h' hge).mono fun e w' ht => by
    obtain ⟨zs, cap, r, h1, h2, h3, h4, h5, h6, h7, h8, h9⟩ := ht
    have := wid_le xs
    exact ⟨zs, _, cap, h1, mine_rest (Nat.le_refl _) h2.1 h5 h6 h7, h2, h3, by omega, h8⟩
theorem mul_m {w : World} {va vb : Value} {xs ys : List Int} (ha : Sl w.heap.size w va xs) (hb : Sl w.heap.size w vb ys) (hl : xs.length + ys.length ≤ 35184372088832) :
    Calls Try.prog 109 #[va, vb] w (Mk w (val xs * val ys) (xs.length + ys.length)) :=
  (mul_any ha hb hl).mono fun e w' h => by
    obtain ⟨zs, r, rfl, m1, m2, m3, m4⟩ := h
    obtain ⟨a, cap, rfl⟩ := m1.form
    exact ⟨zs, a, cap, rfl, m1, m2, m3, canon_len m2 (by rw [m3]; exact val_mul_lt ha.1 hb.1), m4⟩

theorem Mine.setLow {B b : Nat} {w : World} {v : Value} {zs : List Int} (h : Mine B w v zs) (hb : b < B) (i : Nat) (x : Value) : Mine B (w.setCell ⟨b, i, none⟩ x) v zs := by
  obtain ⟨hw, h | ⟨g, r, cap, h1, h2, h3, h4, h5, h6⟩⟩ := h
  · exact ⟨hw, .inl h⟩
  · refine ⟨hw, .inr ⟨g, r, cap, h1, h2, h3, h4, h5, ?_⟩⟩
    have e : (w.setCell ⟨b, i, none⟩ x).heap[g]? = w.heap[g]? := Below.heap_setCell w _ x g (fun e => by simp at e; omega)
    exact e.trans h6
theorem Zm.setLow {B b : Nat} {w : World} {v : Value} {z : Int} {k : Nat} (h : Zm B w v z k) (hb : b < B) (i : Nat) (x : Value) : Zm B (w.setCell ⟨b, i, none⟩ x) v z k := by
  obtain ⟨n, xs, a, c, h1, h2, h3, h4, h5, h6⟩ := h
  exact ⟨n, xs, a, c, h1, h2.setLow hb i x, h3, h4, h5, h6⟩
/-- The end of a call whose result lies in the box b. -/
theorem gz_end {w W : World} {B b : Nat} {x y : Value} {z : Int} {k : Nat} (h : Zm B W (.agg #[x, y]) z k) (hW : Below w.heap.size w W) (hb : w.heap.size ≤ b) (hB : b < B) :
    GivesZ w z k (.returned (.agg #[x, y])) ((W.setCell ⟨b, 0, none⟩ x).setCell ⟨b, 1, none⟩ y) :=
  ⟨_, rfl, ((h.setLow hB 0 x).setLow hB 1 y).mono (by omega), (hW.setCell (p := ⟨b, 0, none⟩) hb x).setCell (p := ⟨b, 1, none⟩) hb y⟩
theorem alloc2 (w : World) (o1 o2 : Obj) : Below w.heap.size w ((w.alloc o1).alloc o2) ∧ ((w.alloc o1).alloc o2).heap.size = w.heap.size + 1 + 1 := ⟨((Below.refl _ _).alloc (Nat.le_refl _) _).alloc (by simp) _, by simp⟩
theorem alloc3 (w : World) (o1 o2 o3 : Obj) : Below w.heap.size w (((w.alloc o1).alloc o2).alloc o3) ∧ (((w.alloc o1).alloc o2).alloc o3).heap.size = w.heap.size + 1 + 1 + 1 := ⟨(((Below.refl _ _).alloc (Nat.le_refl _) _).alloc (by simp) _).alloc (by simp; omega) _, by simp⟩
theorem alloc4 (w : World) (o1 o2 o3 o4 : Obj) : Below w.heap.size w ((((w.alloc o1).alloc o2).alloc o3).alloc o4) ∧ ((((w.alloc o1).alloc o2).alloc o3).alloc o4).heap.size = w.heap.size + 1 + 1 + 1 + 1 := ⟨((((Below.refl _ _).alloc (Nat.le_refl _) _).alloc (by simp) _).alloc (by simp; omega) _).alloc (by simp; omega) _, by simp⟩
theorem duo_at {w : World} {b : Nat} {x y : Value} (hb : w.heap.size = b) : Duo (w.alloc (duo x y)) b x y := by subst hb; exact Duo.new w x y
theorem duo_late {w : World} {b : Nat} {x y : Value} (h : Duo w b x y) (o : Obj) : Duo (w.alloc o) b x y := h.later (Array.getElem?_eq_some_iff.1 (show w.heap[b]? = _ from h)).1 o
end Go.Proofs.Ytachdicdfhfoaaa
