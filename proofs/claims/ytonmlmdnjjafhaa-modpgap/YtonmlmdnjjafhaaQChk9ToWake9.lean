/-
  QChk9ToWake9: Chk9, Mul9, Unit9, Add9, Law9, Wake9, joined.
-/
import Derived.Test.YtonmlmdnjjafhaaQCols9ToTailA

/- Chk9 -/
namespace Go.Proofs.Ytonmlmdnjjafhaa
open Go.RowKit
set_option linter.unusedVariables false

set_option maxHeartbeats 800000 in
set_option maxRecDepth 100000 in
theorem isShape_yes {w : World} {r c : Nat} (hr : r ≤ 64) (hc : c ≤ 64) : Calls Try.prog 22 #[.int .i64 (r : Int), .int .i64 (c : Int)] w fun e w' => e = .returned (.bool true) ∧ w' = w := by
  have h1 : (0 : Int) ≤ (r : Int) := by omega
  have h2 : (0 : Int) ≤ (c : Int) := by omega
  have h3 : (r : Int) ≤ 64 := by omega
  have h4 : (c : Int) ≤ 64 := by omega
  have h5 : max (r : Int) (c : Int) ≤ 64 := by omega
  have h6 : 0 ≤ min (r : Int) (c : Int) := by omega
  go_enter Try.func22, Try.ntmps22
  go_wp2
  go_ret
  exact ⟨rfl, rfl⟩
set_option maxHeartbeats 800000 in
set_option maxRecDepth 100000 in
theorem check_yes {w : World} {v : Value} {r c : Nat} {zs : List Int} {k : Nat} (h : Mx w v r c zs k) : Calls Try.prog 15 #[v] w fun e w' => e = .returned (.int .i64 0) ∧ Below w.heap.size w w' := by
  obtain ⟨a, cap, rfl, hr, hc⟩ := h.form
  have hm0 := wrapM9 (i := r) (c := c) hr hc
  obtain ⟨n, hn⟩ : ∃ n, r * c = n := ⟨_, rfl⟩
  rw [hn] at hm0
  have hm2 := hm0
  rw [IntKind.wrap_i64] at hm2
  rw [hn]
  obtain ⟨W0, hW⟩ : ∃ W0, w.alloc (matO r c (.slice a n cap)) = W0 := ⟨_, rfl⟩
  obtain ⟨b0, sz0⟩ := alo1 w (matO r c (.slice a n cap))
  rw [hW] at b0 sz0
  have P1 : Hid (Cel W0 w.heap.size 39 (matc r c (.slice a n cap))) := by unfold Hid; rw [← hW]; exact Cel.new w _ _
  have x0 := P1.out.at (i := 0) rfl
  have x1 := P1.out.at (i := 1) rfl
  have x2 := P1.out.at (i := 2) rfl
  rw [← hW] at x0 x1 x2
  have HS := hid (isShape_yes (w := W0) hr hc)
  have G0 := hid b0
  have EW := hid hW
  have q0 : ((n : Int) != (n : Int)) = false := by simp
  clear b0 sz0 hW h hn P1
  go_enter Try.func15, Try.ntmps15
  go_wp2_with fail
  rw [EW.out]
  refine HS.out.mono ?_
  rintro e w1 ⟨rfl, rfl⟩
  rw [EW.out] at x0 x1 x2
  go_wp2
  go_ret
  exact ⟨rfl, G0.out⟩
/-- A list of sound matrices. -/
def Ms (w : World) (v : Value) (n : Nat) : Prop := ∃ a cap, v = .slice a n cap ∧ n ≤ 1048576 ∧ (n = 0 ∨ ∃ b off, a = some ⟨b, off, none⟩ ∧ ∀ j, j < n → ∃ (r c l cap' : Nat) (a' : Option Addr), w.cell? ⟨b, off + j * 3, none⟩ = some (.int .i64 (r : Int)) ∧ w.cell? ⟨b, off + j * 3 + 1, none⟩ = some (.int .i64 (c : Int)) ∧ w.cell? ⟨b, off + j * 3 + 2, none⟩ = some (.slice a' l cap') ∧ ∃ zs k, Mx w (matv r c (.slice a' l cap')) r c zs k)
def ChkH (w : World) (n gk : Nat) (s : Value) (wx : World) : Prop := ∃ i : Nat, s = .int .i64 (i : Int) ∧ i ≤ n ∧ gk = n - i ∧ Below w.heap.size w wx
end Go.Proofs.Ytonmlmdnjjafhaa

/- Mul9 -/
namespace Go.Proofs.Ytonmlmdnjjafhaa
open Go.RowKit
set_option linter.unusedVariables false

abbrev twoO (r m m' c : Nat) (x y : Value) : Obj := .cells #[.int .i64 (r : Int), .int .i64 (m : Int), x, .int .i64 (m' : Int), .int .i64 (c : Int), y] 39
theorem ms_two {w W : World} {r m m' c la lb ca cb ka kb : Nat} {aa ab : Option Addr} {xs ys : List Int} (hW : w.alloc (twoO r m m' c (.slice aa la ca) (.slice ab lb cb)) = W) (ha : Mx w (matv r m (.slice aa la ca)) r m xs ka) (hb : Mx w (matv m' c (.slice ab lb cb)) m' c ys kb) : Ms W (.slice (some ⟨w.heap.size, 0, none⟩) 2 2) 2 := by
  have b0 := (alo1 w (twoO r m m' c (.slice aa la ca) (.slice ab lb cb))).1
  rw [hW] at b0
  have P : Cel W w.heap.size 39 [.int .i64 (r : Int), .int .i64 (m : Int), .slice aa la ca, .int .i64 (m' : Int), .int .i64 (c : Int), .slice ab lb cb] := by rw [← hW]; exact Cel.new w _ _
  refine ⟨_, _, rfl, by omega, .inr ⟨w.heap.size, 0, rfl, fun j hj => ?_⟩⟩
  match j, hj with
  | 0, _ => exact ⟨r, m, la, ca, aa, P.at rfl, P.at rfl, P.at rfl, xs, ka, ha.now b0⟩
  | 1, _ => exact ⟨m', c, lb, cb, ab, P.at rfl, P.at rfl, P.at rfl, ys, kb, hb.now b0⟩
/-- What a call answers that gives a matrix and an error. -/
def GivesMO (w : World) (r c : Nat) (zs : List Int) (k : Nat) (e : Ending) (w' : World) : Prop := ∃ v, e = .returned (.tuple #[v, .int .i64 0]) ∧ Mc w' v r c zs k ∧ Below w.heap.size w w'
abbrev mzero : Value := .agg #[.int .i64 0, .int .i64 0, .slice none 0 0]
def GivesME (w : World) (E : Int) (e : Ending) (w' : World) : Prop := e = .returned (.tuple #[mzero, .int .i64 E]) ∧ Below w.heap.size w w'
/-- Three boxes: two matrices and the answer's. -/
theorem three_boxes {w W0 : World} {o1 o2 : List Value} (hW : ((w.alloc (.cells o1.toArray 39)).alloc (.cells o2.toArray 39)).alloc mbox = W0) :
    Cel W0 w.heap.size 39 o1 ∧ Cel W0 (w.heap.size + 1) 39 o2 ∧ Cel W0 (w.heap.size + 1 + 1) 39 [.int .i64 0, .int .i64 0, .slice none 0 0] := by
  refine ⟨?_, ?_, ?_⟩
  · rw [← hW]
    exact (((Cel.new w 39 o1).step ((Below.refl _ _).alloc (Nat.le_refl _) _)).step ((Below.refl _ _).alloc (Nat.le_refl _) _))
  · rw [← hW]
    have := ((Cel.new (w.alloc (.cells o1.toArray 39)) 39 o2).step ((Below.refl _ _).alloc (Nat.le_refl _) mbox))
    simpa using this
  · rw [← hW]
    have := Cel.new ((w.alloc (.cells o1.toArray 39)).alloc (.cells o2.toArray 39)) 39 [.int .i64 0, .int .i64 0, .slice none 0 0]
    simpa using this
theorem Mc.wk {w : World} {v : Value} {r c : Nat} {zs : List Int} {k b : Nat} (h : Mc w v r c zs k) {x0 x1 : Int} {a : Option Addr} {l n : Nat} (d : Cel w b 39 [.int .i64 x0, .int .i64 x1, .slice a l n]) (y0 y1 y2 : Value) : Mc (put3 w b y0 y1 y2) v r c zs k := by
  obtain ⟨at_, ps, h1, h2, h3, h4⟩ := h
  refine ⟨at_, ps, h1, ?_, h3.wk (d.wk3 _ _ _), h4⟩
  obtain ⟨a', c', e1, e2, e3, e4, e5⟩ := h2
  refine ⟨a', c', e1, e2, e3, e4, ?_⟩
  rcases e5 with e5 | ⟨b', off, e6, e7, e8, e9⟩
  · exact .inl e5
  · refine .inr ⟨b', off, e6, e7, by simpa using e8, fun j p hp => ?_⟩
    have hne : b ≠ b' := by
      intro e
      subst e
      have hz : zs[j]? = some (zs[j]'(by rw [← h3.1]; exact (List.getElem?_eq_some_iff.1 hp).1)) := List.getElem?_eq_getElem _
      obtain ⟨n1, a1, l1, c1, q⟩ := (h3.2 j p _ hp hz).zi.isI
      have q1 := (e9 j p hp).1
      rw [show p.1 = .bool n1 by rw [Prod.mk.injEq] at q; exact q.1] at q1
      have q2 : w.heap[b]? = some (.cells #[.int .i64 x0, .int .i64 x1, .slice a l n] 39 (0, 0)) := d
      simp only [World.cell?, q2] at q1
      simp at q1
      generalize off + j * 2 = o at q1
      match o, q1 with
      | 0, q1 => simp at q1
      | 1, q1 => simp at q1
      | 2, q1 => simp at q1
      | o + 3, q1 => simp at q1
    have e : ∀ o, (put3 w b y0 y1 y2).cell? ⟨b', o, none⟩ = w.cell? ⟨b', o, none⟩ := fun o => by
      rw [World.cell?_setCell_other _ _ _ _ (by simp <;> omega), World.cell?_setCell_other _ _ _ _ (by simp <;> omega), World.cell?_setCell_other _ _ _ _ (by simp <;> omega)]
    rw [e, e]
    exact e9 j p hp
end Go.Proofs.Ytonmlmdnjjafhaa

/- Unit9 -/
namespace Go.Proofs.Ytonmlmdnjjafhaa
open Go.RowKit
set_option linter.unusedVariables false

theorem Arr.ne {w : World} {g b i : Nat} {u : Value} {ps : List (Value × Value)} (h : Arr w g ps) (hne : b ≠ g) : Arr (w.setCell ⟨b, i, none⟩ u) g ps := ⟨h.1.ne hne, h.2⟩
theorem Arr.put3 {w : World} {g b : Nat} {ps : List (Value × Value)} (h : Arr w g ps) (hne : b ≠ g) (y0 y1 y2 : Value) : Arr (put3 w b y0 y1 y2) g ps := ((h.ne hne).ne hne).ne hne
def Zeroed (w : World) (r c n : Nat) (e : Ending) (w' : World) : Prop := ∃ g, e = .returned (.tuple #[matv r c (.slice (some ⟨g, 0, none⟩) n n), .int .i64 0]) ∧ w.heap.size ≤ g ∧ Arr w' g (List.replicate n zpair) ∧ Below w.heap.size w w'
def unitL (n : Nat) : Nat → List Int
  | 0 => List.replicate (n * n) 0
  | i + 1 => (unitL n i).set (i * n + i) 1
theorem unitL_length (n : Nat) : ∀ i, (unitL n i).length = n * n
  | 0 => by simp [unitL]
  | i + 1 => by simp [unitL, unitL_length n i]
theorem Zcs.set {w w' : World} {ps : List (Value × Value)} {zs : List Int} {k t : Nat} {x y : Value} {z : Int} (h : Zcs w ps zs k) (hk : Wk w w') (hz : Zc w' (.agg #[x, y]) z k) : Zcs w' (ps.set t (x, y)) (zs.set t z) k := by
  refine ⟨by simp [h.1], fun j p q hp hq => ?_⟩
  by_cases e : j = t
  · subst e
    have h1 : j < ps.length := by simpa using (List.getElem?_eq_some_iff.1 hp).1
    rw [List.getElem?_set_self h1, Option.some.injEq] at hp
    rw [List.getElem?_set_self (by rw [← h.1]; exact h1), Option.some.injEq] at hq
    rw [← hp, ← hq]
    exact hz
  · rw [List.getElem?_set_ne (by omega)] at hp hq
    exact (h.2 j p q hp hq).wk hk
theorem zcs_zero (w : World) (n k : Nat) : Zcs w (List.replicate n zpair) (List.replicate n 0) k := by
  refine ⟨by simp, fun j p z hp hz => ?_⟩
  have e1 : p = zpair := List.eq_of_mem_replicate (List.mem_of_getElem? hp)
  have e2 : z = 0 := List.eq_of_mem_replicate (List.mem_of_getElem? hz)
  rw [e1, e2]
  exact ⟨false, [], none, 0, rfl, Sl.nil _, ⟨WF.nil, rfl⟩, fun _ => rfl, by simp [iv, val], Nat.zero_le _⟩
def UnitH (w : World) (g bu n : Nat) (gk : Nat) (s : Value) (wx : World) : Prop :=
  ∃ i : Nat, s = .int .i64 (i : Int) ∧ i ≤ n ∧ gk = n - i ∧ (∃ ps, Arr wx g ps ∧ ps.length = n * n ∧ Zcs wx ps (unitL n i) 1) ∧ Cel wx bu 39 (matc n n (.slice (some ⟨g, 0, none⟩) (n * n) (n * n))) ∧ Cel wx w.heap.size 39 [.int .i64 0, .int .i64 0, .slice none 0 0] ∧ Below w.heap.size w wx
end Go.Proofs.Ytonmlmdnjjafhaa

/- Add9 -/
namespace Go.Proofs.Ytonmlmdnjjafhaa
open Go.RowKit
set_option linter.unusedVariables false

def addL (n : Nat) (xs ys : List Int) : List Int := (List.range n).map fun j => xs.getD j 0 + ys.getD j 0
def PlaceH (w : World) (g r c la lb ca cb N k : Nat) (aa ab : Option Addr) (F : Nat → Int) (gk : Nat) (s : Value) (wx : World) : Prop :=
  ∃ i : Nat, s = .int .i64 (i : Int) ∧ i ≤ N ∧ gk = N - i ∧ Fil wx g N i F k ∧ Cel wx w.heap.size 39 (matc r c (.slice aa la ca)) ∧ Cel wx (w.heap.size + 1) 39 (matc r c (.slice ab lb cb)) ∧ Cel wx (w.heap.size + 1 + 1) 39 [.int .i64 0, .int .i64 0, .slice none 0 0] ∧ Below w.heap.size w wx
theorem Mx.zl {w : World} {r c : Nat} {at_ : Value} {zs : List Int} {k : Nat} (h : Mx w (matv r c at_) r c zs k) : Zl w at_ zs k ∧ zs.length = r * c := by
  obtain ⟨a, ps, e, h2, h3, h4, -, -⟩ := h
  simp only [matv, Value.agg.injEq, Array.mk.injEq, List.cons.injEq, and_true, true_and] at e
  subst e
  exact ⟨zl_of h2 h3, h4⟩
abbrev fnAdd : Value := .func (.func 35) #[] #[]
end Go.Proofs.Ytonmlmdnjjafhaa

/- Law9 -/
namespace Go.Proofs.Ytonmlmdnjjafhaa
open Go.RowKit
set_option linter.unusedVariables false

theorem Zcs.at9 {B : Nat} {w : World} {b off l c : Nat} {ps : List (Value × Value)} {zs : List Int} {k : Nat} (h : Prs B w (.slice (some ⟨b, off, none⟩) l c) ps) (hz : Zcs w ps zs k) {i : Nat} (hi : i < zs.length) : ∃ n, ∃ xs : List Int, ∃ a c, w.cell? ⟨b, off + i * 2, none⟩ = some (.bool n) ∧ w.cell? ⟨b, off + i * 2 + 1, none⟩ = some (.slice a xs.length c) ∧ Zc w (.agg #[.bool n, .slice a xs.length c]) zs[i] k := by
  have hp : ps[i]? = some (ps[i]'(by rw [hz.1]; exact hi)) := List.getElem?_eq_getElem _
  have q := h.at hp
  have z := hz.2 i _ _ hp (List.getElem?_eq_getElem hi)
  have z' := z
  obtain ⟨n, xs, a, c, e, -⟩ := z
  simp only [Value.agg.injEq, Array.mk.injEq, List.cons.injEq, and_true] at e
  rw [e.1, e.2] at q
  rw [e.1, e.2] at z'
  exact ⟨n, xs, a, c, q.1, q.2, z'⟩
def SameH (w : World) (n gk : Nat) (s : Value) (wx : World) : Prop := ∃ i : Nat, s = .int .i64 (i : Int) ∧ i ≤ n ∧ gk = n - i ∧ Below w.heap.size w wx
/-- Sound, by the numbers. -/
def Snd (r c : Int) (l : Nat) : Prop := 0 ≤ r ∧ r ≤ 64 ∧ 0 ≤ c ∧ c ≤ 64 ∧ (l : Int) = r * c
def Sounded (w : World) (r c : Int) (l : Nat) (e : Ending) (w' : World) : Prop := ∃ b : Bool, e = .returned (.bool b) ∧ (b = true ↔ Snd r c l) ∧ Below w.heap.size w w'
end Go.Proofs.Ytonmlmdnjjafhaa

/- Wake9 -/
namespace Go.Proofs.Ytonmlmdnjjafhaa
open Go.RowKit
set_option linter.unusedVariables false

theorem mx_one {W : World} {b k : Nat} {x y : Value} {z : Int} (d : Duo W b x y) (h : Zi W (.agg #[x, y]) z k) : Mx W (.agg #[.int .i64 1, .int .i64 1, .slice (some ⟨b, 0, none⟩) 1 1]) 1 1 [z] k := by
  refine ⟨.slice (some ⟨b, 0, none⟩) 1 1, [(x, y)], rfl, ⟨_, _, rfl, by simp, by simp, (fun q => by cases q), .inr ⟨b, 0, rfl, Nat.zero_le _, d.blk, fun j p hp => ?_⟩⟩, ⟨rfl, fun j p q hp hq => ?_⟩, rfl, by omega, by omega⟩
  · match j, hp with
    | 0, hp =>
      simp at hp
      subst hp
      exact ⟨d.c0, d.c1⟩
  · match j, hp, hq with
    | 0, hp, hq =>
      simp at hp hq
      subst hp hq
      exact h
theorem six9 : prodL 1 1 1 [2] [3] = [6] := by decide
theorem Zc.parts {w : World} {v : Value} {z : Int} {k : Nat} (h : Zc w v z k) : ∃ n, ∃ xs : List Int, ∃ a c, v = .agg #[.bool n, .slice a xs.length c] := by
  obtain ⟨n, xs, a, c, e, -⟩ := h
  exact ⟨n, xs, a, c, e⟩
end Go.Proofs.Ytonmlmdnjjafhaa
