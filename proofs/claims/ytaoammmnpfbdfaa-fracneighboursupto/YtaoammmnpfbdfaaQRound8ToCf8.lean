/-
  QRound8ToCf8: Round8, TailY, Rq8, Cf8, joined.
-/
import Derived.Test.YtaoammmnpfbdfaaQBw8
import Derived.Test.YtaoammmnpfbdfaaQTailX
import Derived.Test.YtaoammmnpfbdfaaQWords
import Derived.Test.YtaoammmnpfbdfaaQLess6

/- Round8 -/
namespace Go.Proofs.Ytaoammmnpfbdfaa
open Go.RowKit Go.Shelf
set_option linter.unusedVariables false

theorem rows_in {n : Nat} {P : Program} {row : String} {args : Array Value} {w : World} {R : Value → World → Prop} (l : Nat) (h : Rows P row args w R) : RowsIn (Fence.wide.inRound l) n P row args w R :=
  fun c cs _ => let ⟨v, w', r, s⟩ := h c cs; ⟨v, w', r, stepsIn_wide.2 s⟩
theorem op_round {P : Program} {l n : Nat} {o : Oper} {a : Act} {w : World} {K : Act → World → Prop} {Q : Exit → Act → World → Prop} (hno : ∀ c, o.op ≠ .defer c) (h : o.wp P a w K Q) : o.wpIn (Fence.wide.inRound l) n P a w K Q := by
  refine ⟨fun _ _ => trivial, ?_⟩
  rw [Fence.inRound_round, Oper.semAt_some l a.eval o hno]
  unfold Oper.wp at h
  generalize (execOp a.eval o).run P w = r at *
  cases r with
  | ok x w' =>
    cases x <;> simp only [Oper.upon, Oper.uponIn] at h ⊢
    all_goals first
      | exact h
      | exact ⟨fun e => (by cases e), CallsIn.inRound l (callsIn_wide.2 h)⟩
      | exact ⟨fun e => (by cases e), rows_in l h⟩
      | exact h.elim
  | halt x w' => cases x <;> simp only [Oper.upon, Oper.uponIn] at h ⊢ <;> first | exact h | exact h.elim
theorem any_round {P : Program} {l n : Nat} {md : Region.Mode} {ops : Array Oper} {Q : Exit → Act → World → Prop} (hno : ∀ (i : Nat) (o : Oper), ops[i]? = some o → ∀ c, o.op ≠ .defer c) (hL : ¬ LetsOut Q) :
    ∀ fuel listed a w, wpAny P md ops Q fuel listed a w → wpAnyIn (Fence.wide.inRound l) n P md ops Q fuel listed a w
  | 0, listed, a, w, h => h
  | fuel + 1, listed, a, w, h => by
    refine ⟨h.1, fun i hi => ?_⟩
    have q := h.2 i hi
    unfold wpOp at q
    unfold wpOpIn
    cases ho : ops[i]? with
    | none => rw [ho] at q; exact any_round hno hL fuel _ _ _ q
    | some o =>
      rw [ho] at q
      simp only at q ⊢
      by_cases hw : Region.wanted o (yielded ops a.tmps) = true
      · rw [if_pos hw] at q ⊢
        rcases q with q | ⟨_, q⟩
        · exact Oper.wpIn_mono (fun a w => any_round hno hL fuel _ a w) (op_round (hno i o ho) q)
        · exact absurd q hL
      · rw [if_neg hw] at q ⊢
        exact ⟨fun _ _ => trivial, any_round hno hL fuel _ _ _ q⟩
theorem region_round {P : Program} {l n id : Nat} {ops : Array Oper} {Q : Exit → Act → World → Prop} {a : Act} {w : World} (hm : P.follows .mixedOrders = true) (hno : ∀ (i : Nat) (o : Oper), ops[i]? = some o → ∀ c, o.op ≠ .defer c) (hL : ¬ LetsOut Q)
    (h : wpAny P .any ops Q ops.size (Array.replicate ops.size false) a w.drew) : (Code.region id ops true).wpIn (Fence.wide.inRound l) n P Q a w :=
  wpIn_region_any hm (any_round hno hL _ _ _ _ h)
end Go.Proofs.Ytaoammmnpfbdfaa

/- TailY -/
namespace Go.Proofs.Ytaoammmnpfbdfaa
open Go.RowKit
set_option linter.unusedVariables false
section
variable {P : Program} {ops : Array Oper} {Q : Exit → Act → World → Prop} {md : Region.Mode} {S : World → Prop} {X : List Nat}
theorem wpAnyX_three {i j k : Nat} {oi oj ok : Oper} {fuel : Nat} {listed : Array Bool} {a : Act} {w : World} (hr : Region.ready md ops listed = [i, j, k]) (hi : ops[i]? = some oi) (hj : ops[j]? = some oj) (hk : ops[k]? = some ok)
    (h1 : ∀ K' : Act → World → Prop, Shut (∀ a' w', (X.contains i = false → S w → S w') → wpAnyX P md ops Q S X fuel (listed.setIfInBounds i true) a' w' → K' a' w') → if Region.wanted oi (yielded ops a.tmps) = true then Oper.wp P oi a w K' Q else K' (a.put oi.dst undef) w)
    (h2 : ∀ K' : Act → World → Prop, Shut (∀ a' w', (X.contains j = false → S w → S w') → wpAnyX P md ops Q S X fuel (listed.setIfInBounds j true) a' w' → K' a' w') → if Region.wanted oj (yielded ops a.tmps) = true then Oper.wp P oj a w K' Q else K' (a.put oj.dst undef) w)
    (h3 : ∀ K' : Act → World → Prop, Shut (∀ a' w', (X.contains k = false → S w → S w') → wpAnyX P md ops Q S X fuel (listed.setIfInBounds k true) a' w' → K' a' w') → if Region.wanted ok (yielded ops a.tmps) = true then Oper.wp P ok a w K' Q else K' (a.put ok.dst undef) w) :
    wpAnyX P md ops Q S X (fuel + 1) listed a w := by
  refine ⟨fun h0 => (by rw [hr] at h0; cases h0), fun q hq => ?_⟩
  rw [hr] at hq
  rcases List.mem_cons.1 hq with rfl | hq
  · exact wpOp_step hi (fun K' hK => h1 K' (fun a' w' hS hW => hK a' w' ⟨hS, hW⟩))
  · rcases List.mem_cons.1 hq with rfl | hq
    · exact wpOp_step hj (fun K' hK => h2 K' (fun a' w' hS hW => hK a' w' ⟨hS, hW⟩))
    · obtain rfl := List.mem_singleton.1 hq
      exact wpOp_step hk (fun K' hK => h3 K' (fun a' w' hS hW => hK a' w' ⟨hS, hW⟩))
end
end Go.Proofs.Ytaoammmnpfbdfaa

/- Rq8 -/
namespace Go.Proofs.Ytaoammmnpfbdfaa
set_option linter.unusedVariables false

theorem divInt_parts {N D : Int} (hD : D ≠ 0) (hp : 0 < D) : ((Int.gcd N D : Int) ≠ 0 ∧ N.tmod (Int.gcd N D : Int) = 0 ∧ D.tmod (Int.gcd N D : Int) = 0) ∧ N.tdiv (Int.gcd N D : Int) = (Rat.divInt N D).num ∧ D.tdiv (Int.gcd N D : Int) = ((Rat.divInt N D).den : Int) := by
  have g0 : (Int.gcd N D : Int) ≠ 0 := by
    have := Int.gcd_pos_of_ne_zero_right N hD
    omega
  have dN : (Int.gcd N D : Int) ∣ N := Int.gcd_dvd_left ..
  have dD : (Int.gcd N D : Int) ∣ D := Int.gcd_dvd_right ..
  refine ⟨⟨g0, Int.tmod_eq_zero_of_dvd dN, Int.tmod_eq_zero_of_dvd dD⟩, ?_, ?_⟩
  · rw [Rat.num_divInt, Int.sign_eq_one_of_pos hp, Int.one_mul, Int.gcd_comm D N]
    exact Int.tdiv_eq_ediv_of_dvd dN
  · rw [Rat.den_divInt, if_neg hD, Int.gcd_comm D N, Int.tdiv_eq_ediv_of_dvd dD]
    push_cast
    rw [Int.natAbs_of_nonneg (Int.le_of_lt hp)]
theorem divInt_parts_neg {N D : Int} (hp : D < 0) : (-(Int.gcd N D : Int) ≠ 0 ∧ N.tmod (-(Int.gcd N D : Int)) = 0 ∧ D.tmod (-(Int.gcd N D : Int)) = 0) ∧ N.tdiv (-(Int.gcd N D : Int)) = (Rat.divInt N D).num ∧ D.tdiv (-(Int.gcd N D : Int)) = ((Rat.divInt N D).den : Int) := by
  have hD : D ≠ 0 := by omega
  have g0 : (Int.gcd N D : Int) ≠ 0 := by
    have := Int.gcd_pos_of_ne_zero_right N hD
    omega
  have dN : (Int.gcd N D : Int) ∣ N := Int.gcd_dvd_left ..
  have dD : (Int.gcd N D : Int) ∣ D := Int.gcd_dvd_right ..
  have dN' : -(Int.gcd N D : Int) ∣ N := Int.neg_dvd.2 dN
  have dD' : -(Int.gcd N D : Int) ∣ D := Int.neg_dvd.2 dD
  refine ⟨⟨by omega, Int.tmod_eq_zero_of_dvd dN', Int.tmod_eq_zero_of_dvd dD'⟩, ?_, ?_⟩
  · rw [Rat.num_divInt, Int.sign_eq_neg_one_of_neg hp, Int.gcd_comm D N, Int.tdiv_neg, Int.tdiv_eq_ediv_of_dvd dN]
    rw [Int.neg_mul, Int.one_mul]
    exact (Int.neg_ediv_of_dvd dN).symm
  · rw [Rat.den_divInt, if_neg hD, Int.gcd_comm D N, Int.tdiv_neg, Int.tdiv_eq_ediv_of_dvd dD]
    push_cast
    rw [← Int.neg_ediv_of_dvd dD]
    congr 1
    omega
/-- The sum, the product and the quotient as Of is asked for them. -/
theorem add_as {a b : Rat} {N D M E : Int} (hD : D ≠ 0) (hE : E ≠ 0) (ha : a = Rat.divInt N D) (hb : b = Rat.divInt M E) : Rat.divInt (N * E + M * D) (D * E) = a + b := by
  rw [ha, hb, Rat.divInt_add_divInt _ _ hD hE]
theorem sub_as {a b : Rat} {N D M E : Int} (hD : D ≠ 0) (hE : E ≠ 0) (ha : a = Rat.divInt N D) (hb : b = Rat.divInt M E) : Rat.divInt (N * E + -M * D) (D * E) = a - b := by
  rw [ha, hb, Rat.sub_eq_add_neg, Rat.neg_divInt, Rat.divInt_add_divInt _ _ hD hE]
theorem mul_as {a b : Rat} {N D M E : Int} (ha : a = Rat.divInt N D) (hb : b = Rat.divInt M E) : Rat.divInt (N * M) (D * E) = a * b := by
  rw [ha, hb, Rat.divInt_mul_divInt]
theorem div_as {a b : Rat} {N D M E : Int} (ha : a = Rat.divInt N D) (hb : b = Rat.divInt M E) : Rat.divInt (N * E) (D * M) = a / b := by
  rw [ha, hb, Rat.div_def, Rat.inv_divInt, Rat.divInt_mul_divInt]
theorem divInt_zero_iff {N D : Int} (hD : D ≠ 0) : Rat.divInt N D = 0 ↔ N = 0 := by
  rw [show (0 : Rat) = Rat.divInt 0 1 from rfl, Rat.divInt_eq_divInt_iff hD (by decide)]
  omega
end Go.Proofs.Ytaoammmnpfbdfaa

/- Cf8 -/
namespace Go.Proofs.Ytaoammmnpfbdfaa
open Go.RowKit
set_option linter.unusedVariables false

abbrev fzero : Value := .agg #[.bool false, .slice none 0 0, .bool false, .slice none 0 0]
theorem Zm.put4f {B : Nat} {w : World} {v : Value} {z : Int} {k : Nat} (h : Zm B w v z k) {b : Nat} {x0 x1 x2 x3 : Value} (d : Cel w b 26 [x0, x1, x2, x3]) (y0 y1 y2 y3 : Value) : Zm B (put4 w b y0 y1 y2 y3) v z k := by
  have d1 := d.set 0 y0
  have d2 := d1.set 1 y1
  have d3 := d2.set 2 y2
  exact (((h.cel d (by decide)).cel d1 (by decide)).cel d2 (by decide)).cel d3 (by decide)
/-- The result of a call that answers a fraction and an error. -/
theorem fback {f : Func} {s1 s3 : Nat} (hr : f.results = #[ResultVar.cell s1 26, ResultVar.tmp s3]) {W : World} {b : Nat} {x0 x1 x2 x3 e : Value} (h : Cel W b 26 [x0, x1, x2, x3]) (tmps : Array Value) (ht : tmps[s1]? = some (.pointer (some ⟨b, 0, none⟩))) (he : tmps[s3]? = some e) :
    (results f tmps).run Try.prog W = .ok (.tuple #[.agg #[x0, x1, x2, x3], e]) W := by
  simp [results, hr, go_sem, ht, he, h.at (i := 0) rfl, h.at (i := 1) rfl, h.at (i := 2) rfl, h.at (i := 3) rfl]
/-- A fraction in lowest terms, and no error. -/
def GivesF (w : World) (q : Rat) (k : Nat) (e : Ending) (w' : World) : Prop := ∃ r0 r1 r2 r3, e = .returned (.tuple #[.agg #[r0, r1, r2, r3], .int .i64 0]) ∧ Zm w.heap.size w' (.agg #[r0, r1]) q.num k ∧ Zm w.heap.size w' (.agg #[r2, r3]) (q.den : Int) k ∧ Below w.heap.size w w'
/-- The zero value, and an error. -/
def GivesFE (E : Int) (w : World) (e : Ending) (w' : World) : Prop := e = .returned (.tuple #[fzero, .int .i64 E]) ∧ Below w.heap.size w w'
theorem GivesF.more {w w' : World} {q : Rat} {k l : Nat} {e : Ending} (h : GivesF w q k e w') (hl : k ≤ l) : GivesF w q l e w' := by
  obtain ⟨r0, r1, r2, r3, h1, h2, h3, h4⟩ := h
  exact ⟨r0, r1, r2, r3, h1, h2.more hl, h3.more hl, h4⟩
theorem gf_end {w W : World} {b : Nat} {x0 x1 x2 x3 y0 y1 y2 y3 : Value} {q : Rat} {k : Nat} {B B' : Nat} (d : Cel W b 26 [x0, x1, x2, x3]) (h : Zm B W (.agg #[y0, y1]) q.num k) (h' : Zm B' W (.agg #[y2, y3]) (q.den : Int) k) (hW : Below w.heap.size w W) (hb : w.heap.size ≤ b) (hB : w.heap.size ≤ B) (hB' : w.heap.size ≤ B') :
    GivesF w q k (.returned (.tuple #[.agg #[y0, y1, y2, y3], .int .i64 0])) (put4 W b y0 y1 y2 y3) :=
  ⟨y0, y1, y2, y3, rfl, (h.put4f d _ _ _ _).mono hB, (h'.put4f d _ _ _ _).mono hB', (((hW.setCell (p := ⟨b, 0, none⟩) hb _).setCell (p := ⟨b, 1, none⟩) hb _).setCell (p := ⟨b, 2, none⟩) hb _).setCell (p := ⟨b, 3, none⟩) hb _⟩
end Go.Proofs.Ytaoammmnpfbdfaa
