/-
  QZedToSigned: Zed, Signed, joined.
-/
import Derived.Test.YtachdicdfhfoaaaQMulAll

/- Zed -/
namespace Go.Proofs.Ytachdicdfhfoaaa
open Go.RowKit
set_option linter.unusedVariables false

/-- The integer of a sign and a list of words. -/
def iv (n : Bool) (xs : List Int) : Int := if n = true then -(val xs) else val xs
theorem iv_neg (xs : List Int) : iv true xs = -(val xs) := by simp [iv]
theorem iv_pos (xs : List Int) : iv false xs = val xs := by simp [iv]
theorem iv_nil (n : Bool) : iv n [] = 0 := by cases n <;> simp [iv, val]
theorem iv_not (n : Bool) (xs : List Int) : iv (!n) xs = -(iv n xs) := by cases n <;> simp [iv]

/-- An integer in whatever form, of at most k words. -/
def Zi (w : World) (v : Value) (z : Int) (k : Nat) : Prop :=
  ∃ n xs a c, v = .agg #[.bool n, .slice a xs.length c] ∧ Sl w.heap.size w (.slice a xs.length c) xs ∧ iv n xs = z ∧ xs.length ≤ k
/-- An integer in least form, its words in memory from block B on that is its own. -/
def Zm (B : Nat) (w : World) (v : Value) (z : Int) (k : Nat) : Prop :=
  ∃ n zs a c, v = .agg #[.bool n, .slice a zs.length c] ∧ Mine B w (.slice a zs.length c) zs ∧ Canon zs ∧ (zs = [] → n = false) ∧ iv n zs = z ∧ zs.length ≤ k

theorem Zi.now {w w' : World} {v : Value} {z : Int} {k : Nat} (h : Zi w v z k) (hb : Below w.heap.size w w') : Zi w' v z k := by
  obtain ⟨n, xs, a, c, h1, h2, h3, h4⟩ := h
  exact ⟨n, xs, a, c, h1, h2.now hb, h3, h4⟩
theorem Zi.more {w : World} {v : Value} {z : Int} {k l : Nat} (h : Zi w v z k) (hl : k ≤ l) : Zi w v z l := by
  obtain ⟨n, xs, a, c, h1, h2, h3, h4⟩ := h
  exact ⟨n, xs, a, c, h1, h2, h3, by omega⟩
theorem Zm.now {B : Nat} {w w' : World} {v : Value} {z : Int} {k : Nat} (h : Zm B w v z k) (hb : Below w.heap.size w w') : Zm B w' v z k := by
  obtain ⟨n, xs, a, c, h1, h2, h3, h4, h5, h6⟩ := h
  exact ⟨n, xs, a, c, h1, h2.below hb, h3, h4, h5, h6⟩
theorem Zm.more {B : Nat} {w : World} {v : Value} {z : Int} {k l : Nat} (h : Zm B w v z k) (hl : k ≤ l) : Zm B w v z l := by
  obtain ⟨n, xs, a, c, h1, h2, h3, h4, h5, h6⟩ := h
  exact ⟨n, xs, a, c, h1, h2, h3, h4, h5, by omega⟩
theorem Zm.mono {B B' : Nat} {w : World} {v : Value} {z : Int} {k : Nat} (h : Zm B w v z k) (hB : B' ≤ B) : Zm B' w v z k := by
  obtain ⟨n, xs, a, c, h1, h2, h3, h4, h5, h6⟩ := h
  exact ⟨n, xs, a, c, h1, h2.mono hB, h3, h4, h5, h6⟩
theorem Zm.zi {B : Nat} {w : World} {v : Value} {z : Int} {k : Nat} (h : Zm B w v z k) : Zi w v z k := by
  obtain ⟨n, xs, a, c, h1, h2, h3, h4, h5, h6⟩ := h
  exact ⟨n, xs, a, c, h1, h2.sl, h5, h6⟩

/-- The sign is told by the words: there is one form. -/
theorem iv_one {n m : Bool} {xs ys : List Int} (h : iv n xs = iv m ys) (hx : Canon xs) (hy : Canon ys) (hn : xs = [] → n = false) (hm : ys = [] → m = false) : n = m ∧ xs = ys := by
  have h1 := val_nonneg hx.1
  have h2 := val_nonneg hy.1
  have key : ∀ {zs : List Int}, Canon zs → zs ≠ [] → val zs ≠ 0 := fun hc hne e => hne (canon_zero hc e)
  cases n <;> cases m
  · simp only [iv_pos] at h
    exact ⟨rfl, canon_inj hx hy h⟩
  · simp only [iv_pos, iv_neg] at h
    have e : ys = [] := Classical.byContradiction fun q => key hy q (by omega)
    exact absurd (hm e) (by simp)
  · simp only [iv_pos, iv_neg] at h
    have e : xs = [] := Classical.byContradiction fun q => key hx q (by omega)
    exact absurd (hn e) (by simp)
  · simp only [iv_neg] at h
    exact ⟨rfl, canon_inj hx hy (by omega)⟩
/-- What comes out of a call that answers an integer. -/
def GivesZ (w : World) (z : Int) (k : Nat) (e : Ending) (w' : World) : Prop := ∃ r, e = .returned r ∧ Zm w.heap.size w' r z k ∧ Below w.heap.size w w'

/-- A sign for a list in least form. -/
theorem zm_of {B : Nat} {w : World} {n : Bool} {zs : List Int} {a : Option Addr} {c k : Nat} (h : Mine B w (.slice a zs.length c) zs) (hc : Canon zs) (hk : zs.length ≤ k) :
    Zm B w (.agg #[.bool (n && decide (0 < zs.length)), .slice a zs.length c]) (iv n zs) k := by
  refine ⟨_, zs, a, c, rfl, h, hc, fun e => by subst e; simp, ?_, hk⟩
  by_cases e : zs = []
  · subst e; simp [iv_nil]
  · have : 0 < zs.length := Nat.pos_of_ne_zero (fun q => e (List.eq_nil_of_length_eq_zero q))
    simp [this]
end Go.Proofs.Ytachdicdfhfoaaa

/- Signed -/
namespace Go.Proofs.Ytachdicdfhfoaaa
open Go.RowKit
set_option linter.unusedVariables false

/-- A box of two cells. -/
def Duo (w : World) (b : Nat) (x y : Value) : Prop := w.heap[b]? = some (.cells #[x, y] 35 (0, 0))
abbrev duo (x y : Value) : Obj := .cells #[x, y] 35
abbrev zbox : Obj := .cells #[.bool false, .slice none 0 0] 35
theorem Duo.c0 {w : World} {b : Nat} {x y : Value} (h : Duo w b x y) : w.cell? ⟨b, 0, none⟩ = some x := by simp [World.cell?, show w.heap[b]? = _ from h]
theorem Duo.c1 {w : World} {b : Nat} {x y : Value} (h : Duo w b x y) : w.cell? ⟨b, 1, none⟩ = some y := by simp [World.cell?, show w.heap[b]? = _ from h]
theorem Duo.fz {w : World} {b : Nat} {x y : Value} (h : Duo w b x y) (i : Nat) : w.frozen? ⟨b, i, none⟩ = false := by simp [World.frozen?, show w.heap[b]? = _ from h]
theorem Duo.below {w w' : World} {b B : Nat} {x y : Value} (h : Duo w b x y) (hb : Below B w w') (hB : b < B) : Duo w' b x y := (hb.block b hB).trans h
theorem Duo.new (w : World) (x y : Value) : Duo (w.alloc (duo x y)) w.heap.size x y := heap_alloc_new w _
theorem Duo.later {w : World} {b : Nat} {x y : Value} (h : Duo w b x y) (hb : b < w.heap.size) (o : Obj) : Duo (w.alloc o) b x y := h.below ((Below.refl _ _).alloc (Nat.le_refl _) o) hb

theorem Duo.set {w : World} {b : Nat} {x y : Value} (h : Duo w b x y) (x' y' : Value) : Duo ((w.setCell ⟨b, 0, none⟩ x').setCell ⟨b, 1, none⟩ y') b x' y' := by
  have h' : w.heap[b]? = some (.cells #[x, y] 35 (0, 0)) := h
  have hlt : b < w.heap.size := (Array.getElem?_eq_some_iff.1 h').1
  have e : w.heap[b] = .cells #[x, y] 35 (0, 0) := (Array.getElem?_eq_some_iff.1 h').2
  unfold Duo World.setCell
  simp [hlt, Array.getElem_modify, e]
/-- The result that lies in a box of two cells. -/
theorem zback {f : Func} {s : Nat} (hr : f.results = #[ResultVar.cell s 35]) {W : World} {b : Nat} {x y : Value} (h : Duo W b x y) (tmps : Array Value) (ht : tmps[s]? = some (.pointer (some ⟨b, 0, none⟩))) :
    (results f tmps).run Try.prog W = .ok (.agg #[x, y]) W := by
  simp [results, hr, go_sem, ht, h.c0, h.c1]

set_option maxHeartbeats 800000 in
theorem signed_any (w : World) (n : Bool) (l : Nat) (a : Option Addr) (c : Nat) (hl : l ≤ 35184372088832) :
    Calls Try.prog 57 #[.bool n, .slice a l c] w fun e w' => e = .returned (.agg #[.bool (n && decide (0 < l)), .slice a l c]) ∧ Below w.heap.size w w' := by
  have k := (Below.refl w.heap.size w).alloc (Nat.le_refl _) (duo (.bool (n && decide (0 < l))) (.slice a l c))
  cases n
  · go_enter Try.func57, Try.ntmps57
    go_wp2
    exact bodyPost_ret (zback Try.results57 (Duo.new w _ _) _ (by rfl)) rfl ⟨rfl, k⟩
  · by_cases h : 0 < l
    · have h' : (0 : Int) < (l : Int) := by omega
      simp only [h, decide_true, Bool.and_self] at k ⊢
      go_enter Try.func57, Try.ntmps57
      go_wp2
      exact bodyPost_ret (zback Try.results57 (Duo.new w _ _) _ (by rfl)) rfl ⟨rfl, k⟩
    · have h' : ¬ (0 : Int) < (l : Int) := by omega
      simp only [h, decide_false, Bool.and_false] at k ⊢
      go_enter Try.func57, Try.ntmps57
      go_wp2
      exact bodyPost_ret (zback Try.results57 (Duo.new w _ _) _ (by rfl)) rfl ⟨rfl, k⟩
end Go.Proofs.Ytachdicdfhfoaaa
