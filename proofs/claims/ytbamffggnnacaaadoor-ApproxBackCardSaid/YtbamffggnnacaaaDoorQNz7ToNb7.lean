/-
  QNz7ToNb7: Nz7, TailY, Nb7, joined.
-/
import Derived.Test.YtbamffggnnacaaaDoorQFz7ToFb7
import Derived.Test.YtbamffggnnacaaaDoorQWl7
import Derived.Test.YtbamffggnnacaaaDoorQZFloorToZMet
import Derived.Test.YtbamffggnnacaaaDoorQTailX

/- Nz7 -/
namespace Go.Proofs.YtbamffggnnacaaaDoor
open Go.RowKit
set_option linter.unusedVariables false

theorem near_as {w : World} {v : Value} {z : Int} {k F : Nat} (h : Zi w v z k) (hT : Tab w) (hk : k ≤ 1099511627776) (e : zw z 0 = F) :
    Calls Tryd.prog 7 #[v] w fun e w' => e = .returned (.float .f64 F) ∧ Below w.heap.size w w' := by
  subst e; exact near_z h hT hk
theorem two_1024 (w : World) : Calls Tryd.prog 9 #[.int .i64 1024] w fun e w' => ∃ r, e = .returned r ∧ Zi w' r ((2 ^ (54 + E8) : Nat) : Int) 18 ∧ Below w.heap.size w w' :=
  two_z (k := 54 + E8) (by decide) w
theorem two_970 (w : World) : Calls Tryd.prog 9 #[.int .i64 970] w fun e w' => ∃ r, e = .returned r ∧ Zi w' r ((2 ^ E8 : Nat) : Int) 18 ∧ Below w.heap.size w w' :=
  two_z (k := E8) (by decide) w
theorem two_53 (w : World) : Calls Tryd.prog 9 #[.int .i64 53] w fun e w' => ∃ r, e = .returned r ∧ Zi w' r ((2 ^ 53 : Nat) : Int) 18 ∧ Below w.heap.size w w' :=
  two_z (k := 53) (by decide) w
theorem lim_int : (((2 ^ (54 + E8) : Nat) : Int) - ((2 ^ E8 : Nat) : Int)).natAbs = lim7 := by
  unfold lim7
  have : 2 ^ E8 ≤ 2 ^ (54 + E8) := Nat.pow_le_pow_right (by omega) (by omega)
  generalize 2 ^ E8 = Q at *
  generalize 2 ^ (54 + E8) = P at *
  omega
theorem cmpI_ge {a b : Int} (h : b ≤ a) : 0 ≤ cmpI a b := by unfold cmpI; split <;> (try split) <;> omega
theorem abs_ge {w : World} {v u : Value} {A Y : Int} {k l : Nat} (h : Zi w v A k) (h' : Zi w u Y l) (q : Y.natAbs ≤ A.natAbs) :
    Calls Tryd.prog 10 #[v, u] w fun e w' => ∃ c, e = .returned (.int .i64 c) ∧ 0 ≤ c ∧ Below w.heap.size w w' :=
  (cmpAbs_z h h').mono fun e w' ⟨h1, h2⟩ => ⟨_, h1, cmpI_ge (by omega), h2⟩
theorem abs_lt {w : World} {v u : Value} {A Y : Int} {k l : Nat} (h : Zi w v A k) (h' : Zi w u Y l) (q : A.natAbs < Y.natAbs) :
    Calls Tryd.prog 10 #[v, u] w fun e w' => ∃ c, e = .returned (.int .i64 c) ∧ c < 0 ∧ Below w.heap.size w w' :=
  (cmpAbs_z h h').mono fun e w' ⟨h1, h2⟩ => ⟨_, h1, by rw [cmpI_lt (by omega)]; omega, h2⟩
theorem abs_le {w : World} {v u : Value} {A Y : Int} {k l : Nat} (h : Zi w v A k) (h' : Zi w u Y l) (q : A.natAbs ≤ Y.natAbs) :
    Calls Tryd.prog 10 #[v, u] w fun e w' => ∃ c, e = .returned (.int .i64 c) ∧ c ≤ 0 ∧ Below w.heap.size w w' :=
  (cmpAbs_z h h').mono fun e w' ⟨h1, h2⟩ => ⟨_, h1, cmpI_le (by omega), h2⟩
theorem abs_gt {w : World} {v u : Value} {A Y : Int} {k l : Nat} (h : Zi w v A k) (h' : Zi w u Y l) (q : Y.natAbs < A.natAbs) :
    Calls Tryd.prog 10 #[v, u] w fun e w' => ∃ c, e = .returned (.int .i64 c) ∧ 0 < c ∧ Below w.heap.size w w' :=
  (cmpAbs_z h h').mono fun e w' ⟨h1, h2⟩ => ⟨_, h1, by rw [cmpI_gt (by omega)]; omega, h2⟩
theorem isInf_b {b : Nat} (h : b < 2 ^ 64) {s : Int} (w : World) (q : infAs b s = true) : Calls Tryd.prog 11 #[.float .f64 b, .int .i64 s] w fun e w' => e = .returned (.bool true) ∧ Below w.heap.size w w' :=
  (isInf_any h w).mono fun e w' ⟨h1, h2⟩ => ⟨by rw [h1, q], by rw [h2]; exact Below.refl _ _⟩
theorem finite_yes {b : Nat} (h : Fin7 b) (w : World) : Calls Tryd.prog 14 #[.float .f64 b] w fun e w' => e = .returned (.bool true) ∧ Below w.heap.size w w' := by
  have := finite_any b w
  rw [decide_eq_true h] at this
  exact this
theorem finite_no {b : Nat} (h : ¬ Fin7 b) (w : World) : Calls Tryd.prog 14 #[.float .f64 b] w fun e w' => e = .returned (.bool false) ∧ Below w.heap.size w w' := by
  have := finite_any b w
  rw [decide_eq_false h] at this
  exact this
theorem acmp_zero {w : World} {v : Value} {z : Int} {k b : Nat} (h : Zi w v z k) (hb : b < 2 ^ 64) (hf : Fin7 b) (q : acv z b = 0) :
    Calls Tryd.prog 16 #[v, .float .f64 b] w fun e w' => e = .returned (.tuple #[.int .i64 0, .int .i64 0]) ∧ Below w.heap.size w w' := by
  have := acmp_fin h hb hf
  rw [q] at this
  exact this
theorem cmp_nb {w : World} {v u : Value} {z y : Int} {k l F : Nat} (h : Zi w v z k) (h' : Zi w u y l) (h1 : cmpI z y ≤ 0) (h2 : cmpI z y = 0 → F % 2 = 0) :
    Calls Tryd.prog 19 #[v, u] w fun e w' => ∃ c, e = .returned (.int .i64 c) ∧ (c ≤ 0 ∧ (c = 0 → (F : Int) % 2 = 0)) ∧ Below w.heap.size w w' :=
  (cmp_z h h').mono fun e w' ⟨q1, q2⟩ => ⟨_, q1, ⟨h1, fun e => by have := h2 e; omega⟩, q2⟩
theorem sign_no {w : World} {v : Value} {z : Int} {k : Nat} (h : Zi w v z k) (e : z = 0) : Calls Tryd.prog 12 #[v] w fun e w' => e = .returned (.int .i64 0) ∧ Below w.heap.size w w' := by
  have := sign_z h
  rw [e, cmpI_self] at this
  exact this
end Go.Proofs.YtbamffggnnacaaaDoor

/- TailY -/
namespace Go.Proofs.YtbamffggnnacaaaDoor
open Go.RowKit
set_option linter.unusedVariables false
section
variable {P : Program} {ops : Array Oper} {Q : Exit → Act → World → Prop} {md : Region.Mode} {S : World → Prop} {X : List Nat}
theorem wpAnyX_three {i j k : Nat} {oi oj ok : Oper} {fuel : Nat} {listed : Array Bool} {a : Act} {w : World} (hr : Region.ready md ops listed = [i, j, k]) (hi : ops[i]? = some oi) (hj : ops[j]? = some oj) (hk : ops[k]? = some ok)
    (h1 : ∀ K' : Act → World → Prop, Shut (∀ a' w', (X.contains i = false → S w → S w') → wpAnyX P md ops Q S X fuel (listed.setIfInBounds i true) a' w' → K' a' w') → if Region.wanted oi (yielded ops a.tmps) = true then Oper.wp P oi a w K' Q else K' (a.put oi.dst undef) w)
    (h2 : ∀ K' : Act → World → Prop, Shut (∀ a' w', (X.contains j = false → S w → S w') → wpAnyX P md ops Q S X fuel (listed.setIfInBounds j true) a' w' → K' a' w') → if Region.wanted oj (yielded ops a.tmps) = true then Oper.wp P oj a w K' Q else K' (a.put oj.dst undef) w)
    (h3 : ∀ K' : Act → World → Prop, Shut (∀ a' w', (X.contains k = false → S w → S w') → wpAnyX P md ops Q S X fuel (listed.setIfInBounds k true) a' w' → K' a' w') → if Region.wanted ok (yielded ops a.tmps) = true then Oper.wp P ok a w K' Q else K' (a.put ok.dst undef) w) :
    wpAnyX P md ops Q S X (fuel + 1) listed a w := by
  refine ⟨fun h0 => (by rw [hr] at h0; cases h0), fun q hq => ?_⟩
  rw [hr] at hq
  rcases List.mem_cons.1 hq with rfl | hq
  · exact wpOp_step hi (fun K' hK => h1 K' (fun a' w' hS hW => hK a' w' ⟨hS, hW⟩))
  · rcases List.mem_cons.1 hq with rfl | hq
    · exact wpOp_step hj (fun K' hK => h2 K' (fun a' w' hS hW => hK a' w' ⟨hS, hW⟩))
    · obtain rfl := List.mem_singleton.1 hq
      exact wpOp_step hk (fun K' hK => h3 K' (fun a' w' hS hW => hK a' w' ⟨hS, hW⟩))
end
end Go.Proofs.YtbamffggnnacaaaDoor

/- Nb7 -/
namespace Go.Proofs.YtbamffggnnacaaaDoor
open Go.RowKit
set_option linter.unusedVariables false

theorem split_as {b m : Nat} {n M : Int} (h : b < 2 ^ 64) (hf : Fin7 b) (h0 : rg b ≠ 0) (hs : Spl b n m) {w : World} (hT : Tab w) (e : sgb (ng b) m = M) :
    Calls Tryd.prog 20 #[.float .f64 b] w (GivesZn 0 n w M 1) :=
  (split_some h hf h0 hs hT).mono fun e' w' ⟨r, h1, h2, h3⟩ => ⟨r, h1, by
    have hm := (spl_facts hs).2.2.2.1
    have h4 : Zm w.heap.size w' r M 16386 := by rw [← e]; exact h2
    exact h4.fit (by rw [← e, sgb_abs]; simp only [pw, wB]; omega), h3⟩
/-- A word where it lies. -/
structure Wd (w : World) (a : Option Addr) (m : Nat) : Prop where
  ex : ∃ g o, a = some ⟨g, o, none⟩ ∧ w.cell? ⟨g, o, none⟩ = some (.int .u64 (m : Int)) ∧ g < w.heap.size
theorem Wd.now {w w' : World} {a : Option Addr} {m : Nat} (h : Wd w a m) (hb : Below w.heap.size w w') : Wd w' a m := by
  obtain ⟨g, o, h1, h2, h3⟩ := h.ex
  exact ⟨g, o, h1, (hb.cell (p := ⟨g, o, none⟩) h3).trans h2, Nat.lt_of_lt_of_le h3 hb.size⟩
theorem odd_form {B : Nat} {w : World} {n N : Bool} {xs : List Int} {a : Option Addr} {c k m : Nat} {z : Int} (h : Zm B w (.agg #[.bool n, .slice a xs.length c]) z k) (hz : z = sgb N m) (hm : 0 < m) (hm2 : m < 2 ^ 53) :
    n = N ∧ xs.length = 1 ∧ Wd w a m := by
  obtain ⟨n', xs', a', c', h1, h2, h3, h4, h5, h6⟩ := h
  simp only [Value.agg.injEq, Array.mk.injEq, List.cons.injEq, Value.bool.injEq, Value.slice.injEq, and_true] at h1
  obtain ⟨rfl, rfl, h7, rfl⟩ := h1
  have hw : WF [(m : Int)] := fun x hx => by
    obtain rfl := List.mem_singleton.1 hx
    unfold IsW wB; omega
  have hcan : Canon [(m : Int)] := ⟨hw, by simp [wid]; omega⟩
  have hiv : iv N [(m : Int)] = z := by
    rw [hz]; unfold iv sgb; simp [val]
  obtain ⟨e1, e2⟩ := iv_one (h5.trans hiv.symm) h3 hcan h4 (fun e => by simp at e)
  subst e2
  refine ⟨e1, by rw [h7]; rfl, ?_⟩
  obtain ⟨_, a2, cap2, e3, _, _, hm3⟩ := h2.sl
  simp only [Value.slice.injEq] at e3
  obtain ⟨rfl, -, -⟩ := e3
  rcases hm3 with e | ⟨g, o, rfl, hg, hc⟩
  · simp at e
  · exact ⟨g, o, rfl, by simpa using hc 0 (by simp), hg⟩
theorem ratio_as {w : World} {va vb : Value} {A Y : Int} {k l F : Nat} (ha : Zi w va A k) (hb : Zi w vb Y l) (hY : Y ≠ 0) (hT : Tab w) (hk : k ≤ 16000) (hl : l ≤ 16000) (e : rw7 A Y = F) :
    Calls Tryd.prog 22 #[va, vb] w fun e w' => e = .returned (.tuple #[.float .f64 F, .int .i64 0]) ∧ Below w.heap.size w w' := by
  subst e; exact ratio_z ha hb hY hT hk hl
theorem acmp_as {w : World} {v : Value} {z C : Int} {k b : Nat} (h : Zi w v z k) (hb : b < 2 ^ 64) (hf : Fin7 b) (q : acv z b = C) :
    Calls Tryd.prog 16 #[v, .float .f64 b] w fun e w' => e = .returned (.tuple #[.int .i64 C, .int .i64 0]) ∧ Below w.heap.size w w' := by
  subst q; exact acmp_fin h hb hf
theorem cmp_same {w : World} {v u : Value} {z y : Int} {k l : Nat} (h : Zi w v z k) (h' : Zi w u y l) (e : z = y) :
    Calls Tryd.prog 19 #[v, u] w fun e w' => e = .returned (.int .i64 0) ∧ Below w.heap.size w w' := by
  have := cmp_z h h'
  rw [e, cmpI_self] at this
  exact this
theorem sign_as {w : World} {v : Value} {z C : Int} {k : Nat} (h : Zi w v z k) (e : cmpI z 0 = C) : Calls Tryd.prog 12 #[v] w fun e w' => e = .returned (.int .i64 C) ∧ Below w.heap.size w w' := by
  subst e; exact sign_z h
set_option maxHeartbeats 800000 in
theorem bits_some {b : Nat} (h : rg b ≠ 0) (w : World) : Calls Tryd.prog 23 #[.float .f64 b] w fun e w' => e = .returned (.int .u64 (b : Int)) ∧ Below w.heap.size w w' := by
  have k1 := fbits_run b
  have k2 : (FloatKind.f64.format.order b 0 == some .eq) = false := by
    show (Ieee.double.order b 0 == some .eq) = false
    rw [order_zero_eq, decide_eq_false h]
  clear h
  go_enter Tryd.func23, Tryd.ntmps23
  go_wp2
  go_ret
  exact ⟨rfl, Below.refl _ _⟩
theorem two_as {k : Nat} {n : Int} (hk : k ≤ 1100) (e : n = (k : Int)) (w : World) : Calls Tryd.prog 9 #[.int .i64 n] w fun e w' => ∃ r, e = .returned r ∧ Zi w' r ((2 ^ k : Nat) : Int) 18 ∧ Below w.heap.size w w' := by
  subst e; exact two_z hk w
/-- Two boxes that a statement made. -/
def Met2 (W wx : World) (s1 s2 x y : Value) (z : Int) (k : Nat) : Prop :=
  ∃ b1 b2 n, ∃ xs : List Int, ∃ a c, s1 = .pointer (some ⟨b1, 0, none⟩) ∧ s2 = .pointer (some ⟨b2, 0, none⟩) ∧ Below W.heap.size W wx ∧ W.heap.size ≤ b1 ∧ W.heap.size ≤ b2 ∧ b1 < wx.heap.size ∧ b2 < wx.heap.size ∧ b1 ≠ b2 ∧ Duo wx b1 x y ∧ Duo wx b2 (.bool n) (.slice a xs.length c) ∧ Zi wx (.agg #[.bool n, .slice a xs.length c]) z k
theorem pow_ne (k : Nat) : ((2 ^ k : Nat) : Int) ≠ 0 := by have := Nat.two_pow_pos k; omega
end Go.Proofs.YtbamffggnnacaaaDoor
