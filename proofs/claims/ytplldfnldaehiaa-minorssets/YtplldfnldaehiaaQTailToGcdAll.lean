/-
  QTailToGcdAll: Tail, ZFloor, ZEuclid, ZMod, Zlaw0, ZDivs, Less6, ZMet, MWord, GcdAll, joined.
-/
import Derived.Test.YtplldfnldaehiaaQWordsToBase
import Derived.Deep.RegionHeld3
import Derived.StillTail
import Derived.Test.YtplldfnldaehiaaQExact0ToCells6
import Derived.Test.YtplldfnldaehiaaQAlikeToShift
import Derived.Deep.Cut
import Derived.Test.YtplldfnldaehiaaQMulAllToOnes
import Derived.Test.YtplldfnldaehiaaQDivMod
import Derived.Test.YtplldfnldaehiaaQMadeToByWord
import Derived.Deep.LoopGhost

/- Tail -/
namespace Go.Proofs.Ytplldfnldaehiaa
open Go.RowKit
set_option linter.unusedVariables false

section
variable {P : Program} {ops : Array Oper} {Q : Exit → Act → World → Prop} {md : Region.Mode} {S : World → Prop} {n : Nat}

/-- Whatever order is picked from here on, and S holds behind every operation below n that is carried out. -/
def wpAnyT (P : Program) (md : Region.Mode) (ops : Array Oper) (Q : Exit → Act → World → Prop) (S : World → Prop) (n : Nat) : Nat → Array Bool → Act → World → Prop
  | 0, listed, a, w => Region.ready md ops listed = [] ∧ Q .normal a w
  | fuel + 1, listed, a, w =>
    (Region.ready md ops listed = [] → Q .normal a w) ∧
    ∀ i ∈ Region.ready md ops listed, wpOp P ops Q i (fun a' w' => (i < n → S w') ∧ wpAnyT P md ops Q S n fuel (listed.setIfInBounds i true) a' w') a w

theorem wpAny_of_tail : ∀ (fuel : Nat) (listed : Array Bool) (a : Act) (w : World), wpAnyT P md ops Q S n fuel listed a w → wpAny P md ops Q fuel listed a w
  | 0, _, _, _, h => h
  | fuel + 1, _, _, _, h => ⟨h.1, fun i hi => wpOp_mono (fun a' w' h' => wpAny_of_tail fuel _ a' w' h'.2) (h.2 i hi)⟩

theorem wpAnyT_first {i : Nat} {oi : Oper} {v : Value} (hi : ops[i]? = some oi) (hsel : ∀ (j : Nat) (o : Oper) cs b, ops[j]? = some o → o.op ≠ .select cs b)
    (hQ : ∀ c a w, Q (.panic c) (a.put oi.dst v) w → Q (.panic c) a w)
    (hs : Region.sinkB md ops n = true) (hc : Region.chainB md ops n = true) (hn : n < ops.size) (hin : i < n) :
    ∀ (fuel : Nat) (listed : Array Bool) (a : Act) (w : World), HeadInv md ops n listed →
      (∀ j oj, ops[j]? = some oj → j ≠ i → listed.getD j true = false → (∀ e ∈ oj.after, Region.binds md e = true → e.on ≠ i) → oi.apart ops oj = true) →
      i ∈ Region.ready md ops listed → YieldsIf P ops S oi v a → S w →
      wpAnyT P md ops Q S n fuel (listed.setIfInBounds i true) (a.put oi.dst v) w → wpAnyT P md ops Q S n (fuel + 1) listed a w := by
  intro fuel
  induction fuel with
  | zero =>
    intro listed a w inv _ hr hy hS H
    refine ⟨fun h => (by rw [h] at hr; cases hr), fun j hj => ?_⟩
    by_cases hji : j = i
    · subst hji; exact hy.wpOp hi hS ⟨fun _ => hS, H⟩
    · have := ready_mono hj hji
      rw [H.1] at this
      cases this
  | succ fuel ih =>
    intro listed a w inv hfree hr hy hS H
    have hun := (mem_ready.1 hr).1
    refine ⟨fun h => (by rw [h] at hr; cases hr), fun j hj => ?_⟩
    have hjn : j < n := by
      rcases Nat.lt_or_ge j n with h | h
      · exact h
      · exact absurd hj (tail_waits hs hc hn inv _ i rfl hin hun j h)
    by_cases hji : j = i
    · subst hji; exact hy.wpOp hi hS ⟨fun _ => hS, H⟩
    · have h1 := H.2 j (ready_mono hj hji)
      obtain ⟨hjun, oj, hoj, hall⟩ := mem_ready.1 hj
      have hnot : ∀ e ∈ oj.after, Region.binds md e = true → e.on ≠ i := fun e he hb heq => by
        have h1 := hall e he hb
        have h0 := (mem_ready.1 hr).1
        rw [heq] at h1
        rcases Nat.lt_or_ge i listed.size with h' | h'
        · simp [h'] at h0 h1; rw [h0] at h1; cases h1
        · simp [Array.getElem?_eq_none h'] at h1
      have h2 := wpOp_putIf hoj (hfree j oj hoj hji hjun hnot) (fun cs b => hsel i oi cs b hi) (fun cs b => hsel j oj cs b hoj) hQ hy h1
      have hfree' : ∀ k ok, ops[k]? = some ok → k ≠ i → (listed.setIfInBounds j true).getD k true = false →
          (∀ e ∈ ok.after, Region.binds md e = true → e.on ≠ i) → oi.apart ops ok = true := fun k ok hk hki hun hno => by
        refine hfree k ok hk hki ?_ hno
        by_cases hjk : j = k
        · subst hjk; exact hjun
        · rw [getD_set_ne true hjk] at hun; exact hun
      refine wpOp_mono (fun a' w' h3 => ⟨fun _ => h3.2.1 hjn, ih (listed.setIfInBounds j true) a' w' (inv.set hj hjn) hfree' (ready_mono hr (Ne.symm hji)) h3.1 (h3.2.1 hjn) ?_⟩) h2
      rw [Array.setIfInBounds_comm _ _ hji]
      exact h3.2.2

/-- The condition on what is listed, as a Bool. -/
def headB (md : Region.Mode) (ops : Array Oper) (n : Nat) (listed : Array Bool) : Bool :=
  decide (listed.size = ops.size) && (List.range ops.size).all (fun j => match ops[j]? with
    | some oj => !(listed.getD j false) || oj.after.all (fun e => !(Region.binds md e) || listed.getD e.on false)
    | none => true) && (List.range ops.size).all (fun t => decide (t < n) || !(listed.getD t true))
theorem headB_spec {listed : Array Bool} (h : headB md ops n listed = true) : HeadInv md ops n listed := by
  unfold headB at h
  simp only [Bool.and_eq_true, decide_eq_true_eq, List.all_eq_true, List.mem_range, Bool.or_eq_true, Bool.not_eq_true'] at h
  obtain ⟨⟨h1, h2⟩, h3⟩ := h
  refine ⟨h1, fun j oj hj hl e he hb => ?_, fun t ht ht' => ?_⟩
  · have h4 := h2 j (Array.getElem?_eq_some_iff.1 hj).1
    simp only [hj, Bool.or_eq_true, Bool.not_eq_true', hl, Bool.true_eq_false, false_or] at h4
    have h5 := Array.all_eq_true_iff_forall_mem.1 h4 e he
    simp only [Bool.or_eq_true, Bool.not_eq_true', hb, Bool.true_eq_false, false_or] at h5
    exact h5
  · rcases h3 t ht' with h4 | h4
    · omega
    · exact h4
theorem wpAnyT_take {i : Nat} {oi : Oper} {v : Value} {fuel : Nat} {listed : Array Bool} {a : Act} {w : World} (hi : ops[i]? = some oi)
    (hok : (Region.noSelect ops && Region.free md ops listed i && (Region.ready md ops listed).contains i && Region.sinkB md ops n && Region.chainB md ops n && decide (n < ops.size) && decide (i < n) && headB md ops n listed) = true)
    (hQ : ∀ c a w, Q (.panic c) (a.put oi.dst v) w → Q (.panic c) a w) (hy : YieldsIf P ops S oi v a) (hS : S w)
    (h : wpAnyT P md ops Q S n fuel (listed.setIfInBounds i true) (a.put oi.dst v) w) : wpAnyT P md ops Q S n (fuel + 1) listed a w := by
  simp only [Bool.and_eq_true, decide_eq_true_eq] at hok
  obtain ⟨⟨⟨⟨⟨⟨⟨h1, h2⟩, h3⟩, h4⟩, h5⟩, h6⟩, h7⟩, h8⟩ := hok
  exact wpAnyT_first hi (Region.noSelect_spec h1) hQ h4 h5 h6 h7 fuel listed a w (headB_spec h8) (Region.free_spec hi h2) (by simpa using h3) hy hS h
/-- The only one that may come up. -/
theorem wpAnyT_one {i : Nat} {o : Oper} {fuel : Nat} {listed : Array Bool} {a : Act} {w : World} (hr : Region.ready md ops listed = [i]) (ho : ops[i]? = some o)
    (h : ∀ K' : Act → World → Prop, Shut (∀ a w, (i < n → S w) → wpAnyT P md ops Q S n fuel (listed.setIfInBounds i true) a w → K' a w) → if Region.wanted o (yielded ops a.tmps) = true then Oper.wp P o a w K' Q else K' (a.put o.dst undef) w) :
    wpAnyT P md ops Q S n (fuel + 1) listed a w := by
  refine ⟨fun h0 => (by rw [hr] at h0; cases h0), fun j hj => ?_⟩
  rw [hr] at hj
  obtain rfl := List.mem_singleton.1 hj
  exact wpOp_step ho (fun K' hK => h K' (fun a w hS hW => hK a w ⟨hS, hW⟩))
/-- Two that may come up. -/
theorem wpAnyT_two {i j : Nat} {oi oj : Oper} {fuel : Nat} {listed : Array Bool} {a : Act} {w : World} (hr : Region.ready md ops listed = [i, j]) (hi : ops[i]? = some oi) (hj : ops[j]? = some oj)
    (h1 : ∀ K' : Act → World → Prop, Shut (∀ a w, (i < n → S w) → wpAnyT P md ops Q S n fuel (listed.setIfInBounds i true) a w → K' a w) → if Region.wanted oi (yielded ops a.tmps) = true then Oper.wp P oi a w K' Q else K' (a.put oi.dst undef) w)
    (h2 : ∀ K' : Act → World → Prop, Shut (∀ a w, (j < n → S w) → wpAnyT P md ops Q S n fuel (listed.setIfInBounds j true) a w → K' a w) → if Region.wanted oj (yielded ops a.tmps) = true then Oper.wp P oj a w K' Q else K' (a.put oj.dst undef) w) :
    wpAnyT P md ops Q S n (fuel + 1) listed a w := by
  refine ⟨fun h0 => (by rw [hr] at h0; cases h0), fun q hq => ?_⟩
  rw [hr] at hq
  rcases List.mem_cons.1 hq with rfl | hq
  · exact wpOp_step hi (fun K' hK => h1 K' (fun a w hS hW => hK a w ⟨hS, hW⟩))
  · obtain rfl := List.mem_singleton.1 hq
    exact wpOp_step hj (fun K' hK => h2 K' (fun a w hS hW => hK a w ⟨hS, hW⟩))
theorem wpAnyT_done {listed : Array Bool} {a : Act} {w : World} (hr : Region.ready md ops listed = []) (h : Q .normal a w) :
    ∀ fuel, wpAnyT P md ops Q S n fuel listed a w
  | 0 => ⟨hr, h⟩
  | _ + 1 => ⟨fun _ => h, by rw [hr]; simp⟩
theorem wp_region_tail (S : World → Prop) (n : Nat) {id : Nat} {a : Act} {w : World} (hm : P.follows .mixedOrders = true)
    (h : wpAnyT P .any ops Q S n ops.size (Array.replicate ops.size false) a w.drew) : (Code.region id ops true).wp P Q a w :=
  wp_region_any hm (wpAny_of_tail _ _ _ _ h)
end
end Go.Proofs.Ytplldfnldaehiaa

/- ZFloor -/
namespace Go.Proofs.Ytplldfnldaehiaa
open Go.RowKit
set_option linter.unusedVariables false

theorem Duo.drew {w : World} {b : Nat} {x y : Value} (h : Duo w b x y) : Duo w.drew b x y := h
end Go.Proofs.Ytplldfnldaehiaa

/- ZEuclid -/
namespace Go.Proofs.Ytplldfnldaehiaa
open Go.RowKit
set_option linter.unusedVariables false

end Go.Proofs.Ytplldfnldaehiaa

/- ZMod -/
namespace Go.Proofs.Ytplldfnldaehiaa
open Go.RowKit
set_option linter.unusedVariables false

end Go.Proofs.Ytplldfnldaehiaa

/- Zlaw0 -/
namespace Go.Proofs.Ytplldfnldaehiaa
open Go.RowKit
set_option linter.unusedVariables false

theorem cmp_cases (a b : Int) : (a < b ∧ cmpI a b = -1) ∨ (a = b ∧ cmpI a b = 0) ∨ (b < a ∧ cmpI a b = 1) := by
  rcases Int.lt_trichotomy a b with h | h | h
  · exact .inl ⟨h, cmpI_lt h⟩
  · subst h; exact .inr (.inl ⟨rfl, cmpI_self a⟩)
  · exact .inr (.inr ⟨h, cmpI_gt h⟩)
end Go.Proofs.Ytplldfnldaehiaa

/- ZDivs -/
namespace Go.Proofs.Ytplldfnldaehiaa
open Go.RowKit
set_option linter.unusedVariables false

theorem exact_yes {w : World} {v u : Value} {z y : Int} {k l : Nat} (h0 : Zi w v z k) (h1 : Zi w u y l) (hy : y ≠ 0) (hk : k ≤ 1099511627776) (hl : l ≤ 1099511627776) (hr : z.tmod y = 0) : Calls Try.prog 65 #[v, u] w (GivesZ1 0 w (z.tdiv y) k) :=
  (exact_z h0 h1 hy hk hl).mono fun e w' h => by
    rcases h with ⟨_, h⟩ | ⟨h, _⟩
    · exact h
    · exact absurd hr h
theorem tmod_small {z y : Int} (hy : y ≠ 0) : ((z.tmod y).natAbs : Int) < (y.natAbs : Int) ∧ (0 ≤ z → 0 ≤ z.tmod y) ∧ (z ≤ 0 → z.tmod y ≤ 0) ∧ z.tdiv y * y + z.tmod y = z := by
  have h0 : z.tdiv y * y + z.tmod y = z := by rw [Int.mul_comm]; exact Int.mul_tdiv_add_tmod z y
  have h1 := Int.tmod_eq_emod (a := z) (b := y)
  have h2 := Int.emod_nonneg z hy
  have h3 : z % y < (y.natAbs : Int) := by
    by_cases h : 0 < y
    · have := Int.emod_lt_of_pos z h
      omega
    · have := Int.emod_lt_of_pos z (b := -y) (by omega)
      rw [Int.emod_neg] at this
      omega
  have h4 : 0 ≤ z → 0 ≤ z.tmod y := fun h => by
    rw [if_pos (.inl h)] at h1
    omega
  have h5 : z ≤ 0 → z.tmod y ≤ 0 := fun h => by
    have h6 := Int.tmod_eq_emod (a := -z) (b := y)
    rw [if_pos (.inl (by omega)), Int.neg_tmod] at h6
    have h7 := Int.emod_nonneg (-z) hy
    omega
  refine ⟨?_, h4, h5, h0⟩
  by_cases h : 0 ≤ z
  · rw [if_pos (.inl h)] at h1
    omega
  · have h6 := Int.tmod_eq_emod (a := -z) (b := y)
    rw [if_pos (.inl (by omega)), Int.neg_tmod] at h6
    have h7 := Int.emod_nonneg (-z) hy
    have h8 : (-z) % y < (y.natAbs : Int) := by
      by_cases h : 0 < y
      · have := Int.emod_lt_of_pos (-z) h
        omega
      · have := Int.emod_lt_of_pos (-z) (b := -y) (by omega)
        rw [Int.emod_neg] at this
        omega
    omega
theorem sign_cases (x : Int) : (x < 0 ∧ cmpI x 0 = -1) ∨ (x = 0 ∧ cmpI x 0 = 0) ∨ (0 < x ∧ cmpI x 0 = 1) := cmp_cases x 0
theorem sgn_abs (B : Int) : cmpI B 0 * B = (B.natAbs : Int) := by
  rcases sign_cases B with ⟨b1, b2⟩ | ⟨b1, b2⟩ | ⟨b1, b2⟩ <;> rw [b2] <;> omega
end Go.Proofs.Ytplldfnldaehiaa

/- Less6 -/
namespace Go.Proofs.Ytplldfnldaehiaa
open Go.RowKit
set_option linter.unusedVariables false

theorem pair_eq {x0 x1 y0 y1 : Value} (h : #[x0, x1] = #[y0, y1]) : x0 = y0 ∧ x1 = y1 := by simpa using h
theorem Zi.comp {w : World} {v0 v1 : Value} {z : Int} {k : Nat} (h : Zi w (.agg #[v0, v1]) z k) : ∃ n, ∃ xs : List Int, ∃ a c, v0 = .bool n ∧ v1 = .slice a xs.length c := by
  obtain ⟨n, xs, a, c, e, _⟩ := h
  obtain ⟨e1, e2⟩ := pair_eq (show #[v0, v1] = _ by simpa using e)
  exact ⟨n, xs, a, c, e1, e2⟩
/-- A row is no list of words. -/
theorem Row.cel {w : World} {g b i : Nat} {L : List Value} {T : TypeId} {M : List Value} {u : Value} (h : Row w g L) (d : Cel w b T M) (hT : T ≠ 54) : Row (w.setCell ⟨b, i, none⟩ u) g L := by
  have hne : g ≠ b := fun e => by
    subst e
    have := (show w.heap[g]? = _ from h).symm.trans (show w.heap[g]? = _ from d)
    simp at this
    exact hT this.2.symm
  exact (Below.heap_setCell w _ u g (fun e => hne (by simpa using e))).trans h
theorem Mine.cel {B : Nat} {w : World} {v : Value} {zs : List Int} (h : Mine B w v zs) {b i : Nat} {T : TypeId} {M : List Value} {u : Value} (d : Cel w b T M) (hT : T ≠ 54) : Mine B (w.setCell ⟨b, i, none⟩ u) v zs := by
  obtain ⟨hw, h | ⟨g, r, cap, h1, h2, h3, h4, h5, h6⟩⟩ := h
  · exact ⟨hw, .inl h⟩
  · exact ⟨hw, .inr ⟨g, r, cap, h1, h2, h3, h4, h5, h6.cel d hT⟩⟩
theorem Zm.cel {B : Nat} {w : World} {v : Value} {z : Int} {k : Nat} (h : Zm B w v z k) {b i : Nat} {T : TypeId} {M : List Value} {u : Value} (d : Cel w b T M) (hT : T ≠ 54) : Zm B (w.setCell ⟨b, i, none⟩ u) v z k := by
  obtain ⟨n, xs, a, c, h1, h2, h3⟩ := h
  exact ⟨n, xs, a, c, h1, h2.cel d hT, h3⟩
end Go.Proofs.Ytplldfnldaehiaa

/- ZMet -/
namespace Go.Proofs.Ytplldfnldaehiaa
open Go.RowKit
set_option linter.unusedVariables false

end Go.Proofs.Ytplldfnldaehiaa

/- MWord -/
namespace Go.Proofs.Ytplldfnldaehiaa
open Go.RowKit
set_option linter.unusedVariables false

end Go.Proofs.Ytplldfnldaehiaa

/- GcdAll -/
namespace Go.Proofs.Ytplldfnldaehiaa
open Go.RowKit
set_option linter.unusedVariables false

/- Lehmer -/

def ig (u v : Int) : Nat := Nat.gcd u.toNat v.toNat
theorem ig_step {u v q r : Int} (hu : 0 ≤ u) (hv : 0 < v) (hr0 : 0 ≤ r) (hr1 : r < v) (h : u - q * v = r) : ig v r = ig u v := by
  obtain ⟨U, rfl⟩ := Int.eq_ofNat_of_zero_le hu
  obtain ⟨V, rfl⟩ := Int.eq_ofNat_of_zero_le (Int.le_of_lt hv)
  obtain ⟨R, rfl⟩ := Int.eq_ofNat_of_zero_le hr0
  have hm : U % V = R := by
    have h1 : ((U % V : Nat) : Int) = (U : Int) % (V : Int) := by simp
    have h2 : (U : Int) % (V : Int) = (R : Int) := by
      have e : (U : Int) = (R : Int) + (V : Int) * q := by rw [Int.mul_comm]; omega
      rw [e, Int.add_mul_emod_self_left, Int.emod_eq_of_lt hr0 hr1]
    omega
  unfold ig
  simp only [Int.toNat_natCast]
  rw [← hm, Nat.gcd_comm U V, Nat.gcd_rec V U, Nat.gcd_comm]

/-- Where the steps by heads stand. -/
def LehAt (xh yh A B C D x y : Int) : Prop :=
  x = A * xh + B * yh ∧ y = C * xh + D * yh ∧ (0 ≤ x + A ∧ x + A ≤ 1152921504606846976) ∧ (0 ≤ x + B ∧ x + B ≤ 1152921504606846976) ∧ (0 ≤ y + C ∧ y + C ≤ 1152921504606846976) ∧ (0 ≤ y + D ∧ y + D ≤ 1152921504606846976) ∧
    ((0 ≤ A ∧ B ≤ 0 ∧ C ≤ 0 ∧ 0 ≤ D) ∨ (A ≤ 0 ∧ 0 ≤ B ∧ 0 ≤ C ∧ D ≤ 0))
theorem LehAt.start {xh yh : Int} (h0 : 0 ≤ xh) (h1 : xh < 1152921504606846976) (k0 : 0 ≤ yh) (k1 : yh < 1152921504606846976) : LehAt xh yh 1 0 0 1 xh yh :=
  ⟨by omega, by omega, by omega, by omega, by omega, by omega, .inl (by omega)⟩
theorem LehAt.step {xh yh A B C D x y q : Int} (h : LehAt xh yh A B C D x y) (hc : 0 < y + C) (hd : 0 < y + D) (h1 : (x + A) / (y + C) = q) (h2 : (x + B) / (y + D) = q) :
    LehAt xh yh C D (A - q * C) (B - q * D) y (x - q * y) ∧ 0 ≤ q ∧ (x - q * y) + (A - q * C) < y + C ∧ (x - q * y) + (B - q * D) < y + D := by
  obtain ⟨e1, e2, a1, a2, a3, a4, a5⟩ := h
  have q0 : 0 ≤ q := by rw [← h1]; exact Int.ediv_nonneg a1.1 (by omega)
  have m1 := Int.mul_ediv_add_emod (x + A) (y + C)
  have m2 := Int.mul_ediv_add_emod (x + B) (y + D)
  have n1 := Int.emod_nonneg (x + A) (show y + C ≠ 0 by omega)
  have n2 := Int.emod_lt_of_pos (x + A) hc
  have n3 := Int.emod_nonneg (x + B) (show y + D ≠ 0 by omega)
  have n4 := Int.emod_lt_of_pos (x + B) hd
  rw [h1, Int.add_mul] at m1
  rw [h2, Int.add_mul] at m2
  rw [Int.mul_comm q C, Int.mul_comm q D, Int.mul_comm q y]
  have c1 : 0 ≤ q * (-C) ∨ 0 ≤ q * C := by
    rcases a5 with a5 | a5
    · exact .inl (Int.mul_nonneg q0 (by omega))
    · exact .inr (Int.mul_nonneg q0 (by omega))
  refine ⟨⟨e2, ?_, by omega, by omega, by omega, by omega, ?_⟩, q0, by omega, by omega⟩
  · rw [e1, e2]
    grind
  · rcases a5 with a5 | a5
    · right
      have k1 := Int.mul_nonneg q0 (show 0 ≤ -C by omega)
      have k2 := Int.mul_nonneg q0 a5.2.2.2
      rw [Int.mul_neg, Int.mul_comm] at k1
      rw [Int.mul_comm] at k2
      omega
    · left
      have k1 := Int.mul_nonneg q0 (show 0 ≤ -D by omega)
      have k2 := Int.mul_nonneg q0 a5.2.2.1
      rw [Int.mul_neg, Int.mul_comm] at k1
      rw [Int.mul_comm] at k2
      omega

/-- A number by its head, between its ends. -/
theorem leh_ends {P al be S T X : Int} (hP : 0 < P) (a0 : 0 ≤ al) (a1 : al < P) (b0 : 0 ≤ be) (b1 : be < P) (hS : 0 ≤ S) (hT : T ≤ 0) : P * (X + T) ≤ P * X + (S * al + T * be) ∧ P * X + (S * al + T * be) ≤ P * (X + S) := by
  have k1 := Int.mul_nonneg hS a0
  have k2 := Int.mul_le_mul_of_nonneg_left (Int.le_of_lt a1) hS
  have k3 := Int.mul_nonneg (show 0 ≤ -T by omega) b0
  have k4 := Int.mul_le_mul_of_nonneg_left (Int.le_of_lt b1) (show 0 ≤ -T by omega)
  rw [Int.neg_mul] at k3 k4
  rw [Int.neg_mul] at k4
  rw [Int.mul_add, Int.mul_add, Int.mul_comm P T, Int.mul_comm P S]
  omega
def EucAt (xh yh A B C D : Int) : Prop := ∀ P al be : Int, 0 < P → 0 ≤ al → al < P → 0 ≤ be → be < P →
  0 ≤ A * (xh * P + al) + B * (yh * P + be) ∧ 0 ≤ C * (xh * P + al) + D * (yh * P + be) ∧ ig (A * (xh * P + al) + B * (yh * P + be)) (C * (xh * P + al) + D * (yh * P + be)) = ig (xh * P + al) (yh * P + be) ∧
    ((A = 1 ∧ B = 0 ∧ C = 0 ∧ D = 1) ∨ (C ≠ 0 ∧ C * (xh * P + al) + D * (yh * P + be) < A * (xh * P + al) + B * (yh * P + be) ∧ C * (xh * P + al) + D * (yh * P + be) < yh * P + be ∧ A * (xh * P + al) + B * (yh * P + be) ≤ yh * P + be))
theorem EucAt.start {xh yh : Int} (h0 : 0 ≤ xh) (k0 : 0 ≤ yh) : EucAt xh yh 1 0 0 1 := fun P al be hP a0 a1 b0 b1 => by
  have m1 := Int.mul_nonneg h0 (Int.le_of_lt hP)
  have m2 := Int.mul_nonneg k0 (Int.le_of_lt hP)
  have e1 : 1 * (xh * P + al) + 0 * (yh * P + be) = xh * P + al := by omega
  have e2 : 0 * (xh * P + al) + 1 * (yh * P + be) = yh * P + be := by omega
  rw [e1, e2]
  exact ⟨by omega, by omega, rfl, .inl ⟨rfl, rfl, rfl, rfl⟩⟩
theorem leh_form (A B xh yh P al be x : Int) (h : x = A * xh + B * yh) : A * (xh * P + al) + B * (yh * P + be) = P * x + (A * al + B * be) := by
  subst h
  grind
theorem leh_form' (A B xh yh P al be x : Int) (h : x = A * xh + B * yh) : A * (xh * P + al) + B * (yh * P + be) = P * x + (B * be + A * al) := by
  subst h
  grind
theorem leh_rest {xh yh A B C D x y q P al be : Int} (h : LehAt xh yh A B C D x y) (hc : 0 < y + C) (hd : 0 < y + D) (h1 : (x + A) / (y + C) = q) (h2 : (x + B) / (y + D) = q) (hP : 0 < P) (a0 : 0 ≤ al) (a1 : al < P) (b0 : 0 ≤ be) (b1 : be < P) :
    0 < C * (xh * P + al) + D * (yh * P + be) ∧ 0 ≤ (A - q * C) * (xh * P + al) + (B - q * D) * (yh * P + be) ∧ (A - q * C) * (xh * P + al) + (B - q * D) * (yh * P + be) < C * (xh * P + al) + D * (yh * P + be) := by
  obtain ⟨hn, q0, l1, l2⟩ := h.step hc hd h1 h2
  obtain ⟨_, f2, _, _, n3, n4, n5⟩ := hn
  obtain ⟨_, e2, _, _, _, _, a5⟩ := h
  rcases a5 with a5 | a5
  · -- C ≤ 0 ≤ D
    have v := leh_ends (X := y) hP b0 b1 a0 a1 a5.2.2.2 a5.2.2.1
    rw [leh_form' C D xh yh P al be y e2]
    have hs : 0 ≤ A - q * C ∧ B - q * D ≤ 0 := by
      have k1 := Int.mul_nonneg q0 (show 0 ≤ -C by omega)
      have k2 := Int.mul_nonneg q0 a5.2.2.2
      rw [Int.mul_neg] at k1
      omega
    have r := leh_ends (X := x - q * y) hP a0 a1 b0 b1 hs.1 hs.2
    rw [leh_form (A - q * C) (B - q * D) xh yh P al be (x - q * y) f2]
    have z0 := Int.mul_nonneg (Int.le_of_lt hP) n4.1
    have z1 := Int.mul_le_mul_of_nonneg_left (show (x - q * y) + (A - q * C) ≤ y + C - 1 by omega) (Int.le_of_lt hP)
    have z2 := Int.mul_pos hP hc
    rw [Int.mul_sub, Int.mul_one] at z1
    omega
  · have v := leh_ends (X := y) hP a0 a1 b0 b1 a5.2.2.1 a5.2.2.2
    rw [leh_form C D xh yh P al be y e2]
    have hs : A - q * C ≤ 0 ∧ 0 ≤ B - q * D := by
      have k1 := Int.mul_nonneg q0 (show 0 ≤ -D by omega)
      have k2 := Int.mul_nonneg q0 a5.2.2.1
      rw [Int.mul_neg] at k1
      omega
    have r := leh_ends (X := x - q * y) hP b0 b1 a0 a1 hs.2 hs.1
    rw [leh_form' (A - q * C) (B - q * D) xh yh P al be (x - q * y) f2]
    have z0 := Int.mul_nonneg (Int.le_of_lt hP) n3.1
    have z1 := Int.mul_le_mul_of_nonneg_left (show (x - q * y) + (B - q * D) ≤ y + D - 1 by omega) (Int.le_of_lt hP)
    have z2 := Int.mul_pos hP hd
    rw [Int.mul_sub, Int.mul_one] at z1
    omega
theorem leh_sub (A B C D q a b : Int) : (A - q * C) * a + (B - q * D) * b = (A * a + B * b) - q * (C * a + D * b) := by grind
theorem EucAt.step {xh yh A B C D x y q : Int} (h : LehAt xh yh A B C D x y) (he : EucAt xh yh A B C D) (hc : 0 < y + C) (hd : 0 < y + D) (h1 : (x + A) / (y + C) = q) (h2 : (x + B) / (y + D) = q) : EucAt xh yh C D (A - q * C) (B - q * D) := fun P al be hP a0 a1 b0 b1 => by
  obtain ⟨v0, r0, r1⟩ := leh_rest h hc hd h1 h2 hP a0 a1 b0 b1
  obtain ⟨u0, _, g, alt⟩ := he P al be hP a0 a1 b0 b1
  have hst := ig_step (q := q) u0 v0 r0 r1 (leh_sub A B C D q _ _).symm
  refine ⟨Int.le_of_lt v0, r0, hst.trans g, .inr ?_⟩
  have hC : A - q * C ≠ 0 := by
    rcases alt with ⟨rfl, rfl, rfl, rfl⟩ | ⟨hCn, _, _, _⟩
    · omega
    · obtain ⟨w0, s0, s1⟩ := leh_rest h hc hd h1 h2 (P := 1) (al := 0) (be := 0) (by omega) (by omega) (by omega) (by omega) (by omega)
      obtain ⟨_, _, _, alt1⟩ := he 1 0 0 (by omega) (by omega) (by omega) (by omega) (by omega)
      rw [leh_sub] at s1
      rcases alt1 with ⟨_, _, hc0, _⟩ | ⟨_, hlt, _, _⟩
      · exact absurd hc0 hCn
      · obtain ⟨_, q0, _, _⟩ := h.step hc hd h1 h2
        have hq1 : 1 ≤ q := by
          rcases Int.lt_or_eq_of_le q0 with t | t
          · omega
          · rw [← t, Int.zero_mul] at s1; omega
        obtain ⟨_, _, _, _, _, _, a5⟩ := h
        rcases a5 with a5 | a5
        · have := Int.mul_le_mul_of_nonneg_right hq1 (show 0 ≤ -C by omega)
          rw [Int.one_mul, Int.mul_neg] at this
          omega
        · have := Int.mul_le_mul_of_nonneg_right hq1 (show 0 ≤ C by omega)
          rw [Int.one_mul] at this
          omega
  refine ⟨hC, r1, ?_, ?_⟩
  · rcases alt with ⟨rfl, rfl, rfl, rfl⟩ | ⟨_, _, hb, _⟩
    · omega
    · omega
  · rcases alt with ⟨rfl, rfl, rfl, rfl⟩ | ⟨_, _, hb, _⟩
    · omega
    · omega

/- Shares -/

end Go.Proofs.Ytplldfnldaehiaa
