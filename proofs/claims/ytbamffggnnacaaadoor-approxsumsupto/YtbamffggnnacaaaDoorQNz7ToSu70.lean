/-
  QNz7ToSu70: Nz7, SlInts, Su70, joined.
-/
import Derived.Test.YtbamffggnnacaaaDoorQWc7ToFz7
import Derived.Test.YtbamffggnnacaaaDoorQWl7
import Derived.Test.YtbamffggnnacaaaDoorQZFloorToZMet
import Derived.Test.YtbamffggnnacaaaDoorQTailX
import Derived.Test.YtbamffggnnacaaaDoorQBaseToInts
import Derived.Test.YtbamffggnnacaaaDoorQFg7
import Derived.Test.YtbamffggnnacaaaDoorQTotal7
import Derived.BigQuiet

/- Nz7 -/
namespace Go.Proofs.YtbamffggnnacaaaDoor
open Go.RowKit
set_option linter.unusedVariables false

theorem near_as {w : World} {v : Value} {z : Int} {k F : Nat} (h : Zi w v z k) (hT : Tab w) (hk : k ≤ 1099511627776) (e : zw z 0 = F) :
    Calls Tryd.prog 7 #[v] w fun e w' => e = .returned (.float .f64 F) ∧ Below w.heap.size w w' := by
  subst e; exact near_z h hT hk
theorem two_1024 (w : World) : Calls Tryd.prog 9 #[.int .i64 1024] w fun e w' => ∃ r, e = .returned r ∧ Zi w' r ((2 ^ (54 + E8) : Nat) : Int) 18 ∧ Below w.heap.size w w' :=
  two_z (k := 54 + E8) (by decide) w
theorem two_970 (w : World) : Calls Tryd.prog 9 #[.int .i64 970] w fun e w' => ∃ r, e = .returned r ∧ Zi w' r ((2 ^ E8 : Nat) : Int) 18 ∧ Below w.heap.size w w' :=
  two_z (k := E8) (by decide) w
theorem two_53 (w : World) : Calls Tryd.prog 9 #[.int .i64 53] w fun e w' => ∃ r, e = .returned r ∧ Zi w' r ((2 ^ 53 : Nat) : Int) 18 ∧ Below w.heap.size w w' :=
  two_z (k := 53) (by decide) w
theorem lim_int : (((2 ^ (54 + E8) : Nat) : Int) - ((2 ^ E8 : Nat) : Int)).natAbs = lim7 := by
  unfold lim7
  have : 2 ^ E8 ≤ 2 ^ (54 + E8) := Nat.pow_le_pow_right (by omega) (by omega)
  generalize 2 ^ E8 = Q at *
  generalize 2 ^ (54 + E8) = P at *
  omega
theorem cmpI_ge {a b : Int} (h : b ≤ a) : 0 ≤ cmpI a b := by unfold cmpI; split <;> (try split) <;> omega
theorem abs_ge {w : World} {v u : Value} {A Y : Int} {k l : Nat} (h : Zi w v A k) (h' : Zi w u Y l) (q : Y.natAbs ≤ A.natAbs) :
    Calls Tryd.prog 10 #[v, u] w fun e w' => ∃ c, e = .returned (.int .i64 c) ∧ 0 ≤ c ∧ Below w.heap.size w w' :=
  (cmpAbs_z h h').mono fun e w' ⟨h1, h2⟩ => ⟨_, h1, cmpI_ge (by omega), h2⟩
theorem abs_lt {w : World} {v u : Value} {A Y : Int} {k l : Nat} (h : Zi w v A k) (h' : Zi w u Y l) (q : A.natAbs < Y.natAbs) :
    Calls Tryd.prog 10 #[v, u] w fun e w' => ∃ c, e = .returned (.int .i64 c) ∧ c < 0 ∧ Below w.heap.size w w' :=
  (cmpAbs_z h h').mono fun e w' ⟨h1, h2⟩ => ⟨_, h1, by rw [cmpI_lt (by omega)]; omega, h2⟩
theorem abs_le {w : World} {v u : Value} {A Y : Int} {k l : Nat} (h : Zi w v A k) (h' : Zi w u Y l) (q : A.natAbs ≤ Y.natAbs) :
    Calls Tryd.prog 10 #[v, u] w fun e w' => ∃ c, e = .returned (.int .i64 c) ∧ c ≤ 0 ∧ Below w.heap.size w w' :=
  (cmpAbs_z h h').mono fun e w' ⟨h1, h2⟩ => ⟨_, h1, cmpI_le (by omega), h2⟩
theorem abs_gt {w : World} {v u : Value} {A Y : Int} {k l : Nat} (h : Zi w v A k) (h' : Zi w u Y l) (q : Y.natAbs < A.natAbs) :
    Calls Tryd.prog 10 #[v, u] w fun e w' => ∃ c, e = .returned (.int .i64 c) ∧ 0 < c ∧ Below w.heap.size w w' :=
  (cmpAbs_z h h').mono fun e w' ⟨h1, h2⟩ => ⟨_, h1, by rw [cmpI_gt (by omega)]; omega, h2⟩
theorem isInf_b {b : Nat} (h : b < 2 ^ 64) {s : Int} (w : World) (q : infAs b s = true) : Calls Tryd.prog 11 #[.float .f64 b, .int .i64 s] w fun e w' => e = .returned (.bool true) ∧ Below w.heap.size w w' :=
  (isInf_any h w).mono fun e w' ⟨h1, h2⟩ => ⟨by rw [h1, q], by rw [h2]; exact Below.refl _ _⟩
theorem finite_yes {b : Nat} (h : Fin7 b) (w : World) : Calls Tryd.prog 14 #[.float .f64 b] w fun e w' => e = .returned (.bool true) ∧ Below w.heap.size w w' := by
  have := finite_any b w
  rw [decide_eq_true h] at this
  exact this
theorem finite_no {b : Nat} (h : ¬ Fin7 b) (w : World) : Calls Tryd.prog 14 #[.float .f64 b] w fun e w' => e = .returned (.bool false) ∧ Below w.heap.size w w' := by
  have := finite_any b w
  rw [decide_eq_false h] at this
  exact this
theorem acmp_zero {w : World} {v : Value} {z : Int} {k b : Nat} (h : Zi w v z k) (hb : b < 2 ^ 64) (hf : Fin7 b) (q : acv z b = 0) :
    Calls Tryd.prog 16 #[v, .float .f64 b] w fun e w' => e = .returned (.tuple #[.int .i64 0, .int .i64 0]) ∧ Below w.heap.size w w' := by
  have := acmp_fin h hb hf
  rw [q] at this
  exact this
theorem cmp_nb {w : World} {v u : Value} {z y : Int} {k l F : Nat} (h : Zi w v z k) (h' : Zi w u y l) (h1 : cmpI z y ≤ 0) (h2 : cmpI z y = 0 → F % 2 = 0) :
    Calls Tryd.prog 19 #[v, u] w fun e w' => ∃ c, e = .returned (.int .i64 c) ∧ (c ≤ 0 ∧ (c = 0 → (F : Int) % 2 = 0)) ∧ Below w.heap.size w w' :=
  (cmp_z h h').mono fun e w' ⟨q1, q2⟩ => ⟨_, q1, ⟨h1, fun e => by have := h2 e; omega⟩, q2⟩
theorem sign_no {w : World} {v : Value} {z : Int} {k : Nat} (h : Zi w v z k) (e : z = 0) : Calls Tryd.prog 12 #[v] w fun e w' => e = .returned (.int .i64 0) ∧ Below w.heap.size w w' := by
  have := sign_z h
  rw [e, cmpI_self] at this
  exact this
end Go.Proofs.YtbamffggnnacaaaDoor

/- SlInts -/
namespace Go.Proofs.YtbamffggnnacaaaDoor
open Go.RowKit

/-- A slice of numbers. -/
def SlI (B : Nat) (w : World) (v : Value) (ps : List Int) : Prop :=
  (∀ p ∈ ps, -9223372036854775808 ≤ p ∧ p ≤ 9223372036854775807) ∧ ∃ a cap, v = .slice a ps.length cap ∧ ps.length ≤ cap ∧ cap ≤ 35184372088832 ∧
    (ps = [] ∨ ∃ b off, a = some ⟨b, off, none⟩ ∧ b < B ∧ ∀ j (h : j < ps.length), w.cell? ⟨b, off + j, none⟩ = some (.int .i64 ps[j]))
theorem SlI.now {w w' : World} {v : Value} {xs : List Int} (h : SlI w.heap.size w v xs) (hb : Below w.heap.size w w') : SlI w'.heap.size w' v xs := by
  obtain ⟨h1, a, cap, h2, h3, h4, h5⟩ := h
  refine ⟨h1, a, cap, h2, h3, h4, ?_⟩
  rcases h5 with h5 | ⟨b, off, h6, h7, h8⟩
  · exact .inl h5
  · exact .inr ⟨b, off, h6, Nat.lt_of_lt_of_le h7 hb.size, fun j hj => (hb.cell (p := ⟨b, off + j, none⟩) h7).trans (h8 j hj)⟩
end Go.Proofs.YtbamffggnnacaaaDoor

/- Su70 -/
namespace Go.Proofs.YtbamffggnnacaaaDoor
open Go.RowKit
set_option linter.unusedVariables false

/-- A list of int32 that lies below block B. -/
def Sl32 (B : Nat) (w : World) (v : Value) (ps : List Int) : Prop :=
  (∀ p ∈ ps, -2147483648 ≤ p ∧ p ≤ 2147483647) ∧ ∃ a cap, v = .slice a ps.length cap ∧ ps.length ≤ cap ∧ ps.length ≤ 1048576 ∧ (ps = [] ∨ ∃ b off, a = some ⟨b, off, none⟩ ∧ b < B ∧ ∀ j (h : j < ps.length), w.cell? ⟨b, off + j, none⟩ = some (.int .i32 ps[j]))
/-- The heap's box. -/
def HpB (w wx : World) (v0 v1 : Value) (X : Nat) (v3 : Value) : Prop := wx.heap[w.heap.size]? = some (.cells #[v0, v1, .int .u64 (X : Int), v3] 54)
theorem HpB.c {w wx : World} {v0 v1 v3 : Value} {X : Nat} (h : HpB w wx v0 v1 X v3) : wx.cell? ⟨w.heap.size, 0, none⟩ = some v0 ∧ wx.cell? ⟨w.heap.size, 1, none⟩ = some v1 ∧ wx.cell? ⟨w.heap.size, 2, none⟩ = some (.int .u64 (X : Int)) ∧ wx.cell? ⟨w.heap.size, 3, none⟩ = some v3 := by
  unfold HpB at h
  refine ⟨?_, ?_, ?_, ?_⟩ <;> simp [World.cell?, h]
theorem HpB.lt {w wx : World} {v0 v1 v3 : Value} {X : Nat} (h : HpB w wx v0 v1 X v3) : w.heap.size < wx.heap.size := (Array.getElem?_eq_some_iff.1 h).1
theorem HpB.now {w wx wy : World} {v0 v1 v3 : Value} {X : Nat} (h : HpB w wx v0 v1 X v3) (hb : Below wx.heap.size wx wy) : HpB w wy v0 v1 X v3 := (hb.block _ h.lt).trans h
theorem HpB.ne {w wx : World} {v0 v1 v3 : Value} {X g i : Nat} {u : Value} (h : HpB w wx v0 v1 X v3) (hne : w.heap.size < g) : HpB w (wx.setCell ⟨g, i, none⟩ u) v0 v1 X v3 :=
  (Below.heap_setCell wx _ u _ (fun e => by simp at e; omega)).trans h
theorem below_drewN (w : World) (n B : Nat) : Below B w (w.drewN n) := ⟨rfl, rfl, rfl, Nat.le_refl _, fun _ _ => rfl⟩
/-- What the loop over the list keeps. -/
def AllH (w : World) (v0 v1 v3 : Value) (X g n : Nat) (fs : List Nat) (gg : Nat) (s8 s9 : Value) (wx : World) : Prop :=
  ∃ i : Nat, ∃ A : Bool, s8 = .bool A ∧ s9 = .int .i64 (i : Int) ∧ i ≤ n ∧ gg = n - i ∧ (A = true ↔ ∀ j (h : j < fs.length), j < i → Fin7 fs[j]) ∧ HpB w wx v0 v1 X v3 ∧ RowF wx g (fws fs) ∧ Below w.heap.size w wx
/-- What the loop over the places keeps. -/
def SwapH (w : World) (v0 v1 v3 : Value) (X g n np : Nat) (S : Int) (gg : Nat) (s10 : Value) (wx : World) : Prop :=
  ∃ i : Nat, ∃ zs : List Nat, s10 = .int .i64 (i : Int) ∧ i ≤ np + 1 ∧ gg = np + 1 - i ∧ zs.length = n ∧ (∀ f ∈ zs, Fin7 f) ∧ (∀ f ∈ zs, f < 2 ^ 64) ∧ ssum zs = S ∧ HpB w wx v0 v1 X v3 ∧ RowF wx g (fws zs) ∧ Below w.heap.size w wx
/-- A sum of whole numbers. -/
def isum : List Int → Int
  | [] => 0
  | z :: l => z + isum l
theorem isum_append : ∀ (l r : List Int), isum (l ++ r) = isum l + isum r
  | [], r => by simp [isum]
  | z :: l, r => by simp only [List.cons_append, isum]; rw [isum_append l r]; omega
theorem isum_take {l : List Int} {k : Nat} (h : k < l.length) : isum (l.take (k + 1)) = isum (l.take k) + l[k] := by
  rw [List.take_succ_eq_append_getElem h, isum_append]
  simp [isum]
/-- What the loop over the whole numbers keeps. -/
def PartH (w : World) (bs n : Nat) (qs : List Int) (gg : Nat) (s17 s19 : Value) (wx : World) : Prop :=
  ∃ i : Nat, ∃ gs : List Nat, ∃ r0 r1 : Value, s19 = .int .i64 (i : Int) ∧ i ≤ n ∧ gg = n - i ∧ Gat (bs + 1) wx s17 gs ∧ gs.length = i ∧ (∀ f ∈ gs, Fin7 f) ∧ (∀ f ∈ gs, f < 2 ^ 64) ∧ ssum gs = isum (qs.take i) * ((2 ^ E7 : Nat) : Int) ∧ Duo wx bs r0 r1 ∧ Zm 0 wx (.agg #[r0, r1]) (isum (qs.take i)) (1 + i) ∧ w.heap.size ≤ bs ∧ bs + 1 ≤ wx.heap.size ∧ Below w.heap.size w wx
theorem Gat.ne {B b i : Nat} {w : World} {v u : Value} {fs : List Nat} (h : Gat B w v fs) (hb : b < B) : Gat B (w.setCell ⟨b, i, none⟩ u) v fs := by
  obtain ⟨q1, q2 | ⟨g, cap, cur, q2, q3, q4, q5⟩⟩ := h
  · exact ⟨q1, .inl q2⟩
  · exact ⟨q1, .inr ⟨g, cap, cur, q2, q3, (Below.heap_setCell w _ u g (fun e => by simp at e; omega)).trans q4, q5⟩⟩
theorem below_weak {B C : Nat} {w w' : World} (h : Below B w w') (hC : C ≤ B) : Below C w w' := ⟨h.os, h.tape, h.output, h.size, fun k hk => h.block k (by omega)⟩
theorem cell_new (w : World) (x : Nat) : (w.alloc (.cells #[.float .f64 x] 26)).cell? ⟨w.heap.size, 0, none⟩ = some (.float .f64 x) := by
  have h := heap_alloc_new w (.cells #[.float .f64 x] 26)
  generalize w.alloc (.cells #[.float .f64 x] 26) = W at *
  generalize w.heap.size = g at *
  simp [World.cell?, h]
theorem near_any {B : Nat} {w : World} {v : Value} {z : Int} {k F : Nat} (h : Zm B w v z k) (hT : Tab w) (hk : k ≤ 1099511627776) (e : zw z 0 = F) : Calls Tryd.prog 7 #[v] w fun e w' => e = .returned (.float .f64 F) ∧ Below w.heap.size w w' := near_as h.zi hT hk e
end Go.Proofs.YtbamffggnnacaaaDoor
