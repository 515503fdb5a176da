/-
  Ec17: the law's echelon, at a reduced echelon form.
-/
import Derived.Test.YtcceoildbnoliaaGreatQLo17
import Derived.Test.YtcceoildbnoliaaGreatQZe17ToOn17
import Derived.Test.YtcceoildbnoliaaGreatQFo17
import Derived.Test.YtcceoildbnoliaaGreatQSl17ToCf8
namespace Go.Proofs.YtcceoildbnoliaaGreat
open Go.RowKit
open Q17 (Rref dlt)
set_option linter.unusedVariables false
set_option linter.unusedSimpArgs false

structure EcJ (w : World) (bq r c : Nat) (a : Option Addr) (l cap : Nat) (R : Nat → Rat) (k B : Nat) (va : Option Addr) (pl vc : Nat) (pv : List Nat) (wx : World) : Prop where
  q : Cel wx bq 24 [.int .i64 (r : Int), .int .i64 (c : Int), .slice a l cap]
  v : Qc wx (.slice a l cap) l R k
  p : Ivs B wx (.slice va pl vc) pv
  b : Below w.heap.size w wx
theorem EcJ.now {w : World} {bq r c : Nat} {a : Option Addr} {l cap : Nat} {R : Nat → Rat} {k B : Nat} {va : Option Addr} {pl vc : Nat} {pv : List Nat} {wx wy : World} (h : EcJ w bq r c a l cap R k B va pl vc pv wx) (hb : Below wx.heap.size wx wy) : EcJ w bq r c a l cap R k B va pl vc pv wy :=
  ⟨h.q.step hb, h.v.now hb, h.p.now hb, below_step h.b hb⟩
/-- Where a row's first number other than 0 stands. -/
theorem Q17.Rref.first {r c : Nat} {M : Nat → Nat → Rat} {pv : List Nat} (h : Rref r c M pv) {i : Nat} (hi : i < r) : ∃ F, F ≤ c ∧ (∀ j, j < F → M i j = 0) ∧ ((F = c ∧ pv.length ≤ i) ∨ (F < c ∧ i < pv.length ∧ pv.getD i 0 = F ∧ M i F = 1 ∧ (∀ t, t < r → t ≠ i → M t F = 0) ∧ (0 < i → pv.getD (i - 1) 0 < F))) := by
  by_cases q : i < pv.length
  · have e : pv[i]? = some (pv.getD i 0) := by simp [q]
    have hlt := h.lt i _ e
    refine ⟨pv.getD i 0, Nat.le_of_lt hlt, fun j hj => h.low i _ j e hj, .inr ⟨hlt, q, rfl, ?_, fun t ht hne => ?_, fun h0 => ?_⟩⟩
    · rw [h.one i _ i e hi]; unfold dlt; rw [if_pos rfl]
    · rw [h.one i _ t e ht]; unfold dlt; rw [if_neg hne]
    · have e' : pv[i - 1]? = some (pv.getD (i - 1) 0) := by simp [show i - 1 < pv.length by omega]
      exact h.inc (i - 1) i _ _ (by omega) e' e
  · exact ⟨c, Nat.le_refl _, fun j hj => h.zer i j (by omega) hi hj, .inl ⟨rfl, by omega⟩⟩
set_option maxHeartbeats 12800000 in
set_option maxRecDepth 100000 in
theorem echelon17 {w : World} {r c : Nat} {a : Option Addr} {l cap k B : Nat} {R : Nat → Rat} {va : Option Addr} {pl vc : Nat} {pv : List Nat} (hv : Qc w (.slice a l cap) l R k) (hl : l = r * c) (hr : r ≤ 64) (hc : c ≤ 64) (hk : k ≤ 68719476736) (hR : Rref r c (fun i j => R (i * c + j)) pv) (hI : Ivs B w (.slice va pl vc) pv) (hp : pv.length = pl) :
    Calls Tryz.prog 10 #[qmv r c (.slice a l cap), .slice va pl vc] w fun e w' => e = .returned (.bool true) ∧ Below w.heap.size w w' := by
  show Calls Tryz.prog 10 #[.agg #[.int .i64 (r : Int), .int .i64 (c : Int), .slice a l cap], .slice va pl vc] w _
  obtain ⟨W0, hW⟩ : ∃ W0, w.alloc (.cells #[.int .i64 (r : Int), .int .i64 (c : Int), .slice a l cap] 24) = W0 := ⟨_, rfl⟩
  obtain ⟨b0, sz0⟩ := alo1 w (.cells #[.int .i64 (r : Int), .int .i64 (c : Int), .slice a l cap] 24)
  rw [hW] at b0 sz0
  have CQ : Cel W0 w.heap.size 24 [.int .i64 (r : Int), .int .i64 (c : Int), .slice a l cap] := by rw [← hW]; exact Cel.new w _ _
  have J0 : Hid (EcJ w w.heap.size r c a l cap R k B va pl vc pv W0) := ⟨CQ, hv.now b0, hI.now b0, b0⟩
  have HLO := hid (lowest17 (hv.now b0) hk)
  have x0 := CQ.at (i := 0) rfl
  have x1 := CQ.at (i := 1) rfl
  have x2 := CQ.at (i := 2) rfl
  rw [← hW] at x0 x1 x2
  have EW := hid hW
  have HRR := hid hR
  have HPL := hid hp
  have HL := hid hl
  have hpr : pl ≤ r := by have := hR.len; omega
  have hr0 : ¬ (r : Int) < 0 := by omega
  have hc0 : ¬ (c : Int) < 0 := by omega
  have hr1 : ¬ (64 : Int) < (r : Int) := by omega
  have hc1 : ¬ (64 : Int) < (c : Int) := by omega
  have hm : IntKind.i64.wrap ((r : Int) * (c : Int)) = (l : Int) := by
    have h1 : l ≤ 64 * 64 := by rw [hl]; exact Nat.mul_le_mul hr hc
    rw [← Int.natCast_mul, ← hl, wrap_is] <;> omega
  have hpg : ¬ r < pl := by omega
  clear hv hl hR hI hp b0 sz0 hW CQ
  go_enter Tryz.func10, Tryz.ntmps10
  go_wp2_with fail
  rw [EW.out]
  refine HLO.out.mono ?_
  rintro e w1 ⟨rfl, b1⟩
  obtain ⟨bq, hbq⟩ : ∃ bq, w.heap.size = bq := ⟨_, rfl⟩
  rw [hbq] at J0 x0 x1 x2 ⊢
  have J1 := hid (J0.out.now b1)
  have EQ := hid hbq
  have y0 := J1.out.q.at (i := 0) rfl
  have H0 : Hid (∃ i : Nat, Value.int .i64 0 = .int .i64 (i : Int) ∧ i ≤ r ∧ r = r - i ∧ EcJ w bq r c a l cap R k B va pl vc pv w1) := ⟨0, rfl, Nat.zero_le _, rfl, J1.out⟩
  clear HLO b1 J0 EW x0 x1 x2 hm hbq J1
  go_wp2_with fail
  clear y0
  go_loopg [5] r (fun gk s5 wx => ∃ i : Nat, s5 = .int .i64 (i : Int) ∧ i ≤ r ∧ gk = r - i ∧ EcJ w bq r c a l cap R k B va pl vc pv wx)
  case atStart => exact H0.out
  case round =>
    clear H0
    obtain ⟨i, rfl, hir, rfl, hJ⟩ := hrel
    have J := hid hJ
    have y0 := hJ.q.at (i := 0) rfl
    clear hJ
    by_cases hlt : i < r
    · have hlt' : (i : Int) < (r : Int) := by omega
      have hwi := wrapI9 (i := i) (by omega)
      obtain ⟨F, hFc, hZ, hF⟩ := HRR.out.first hlt
      have HZ := hid hZ
      have HF := hid hF
      have HMO : Hid (r - (i + 1) < r - i) := by unfold Hid; omega
      have H0 : Hid (∃ f : Nat, Value.int .i64 0 = .int .i64 (f : Int) ∧ f ≤ F ∧ F = F - f ∧ EcJ w bq r c a l cap R k B va pl vc pv wr) := ⟨0, rfl, Nat.zero_le _, rfl, J.out⟩
      clear hZ hF J
      go_wp2_with fail
      clear y0
      go_loopg [6] F (fun gk s6 wx => ∃ f : Nat, s6 = .int .i64 (f : Int) ∧ f ≤ F ∧ gk = F - f ∧ EcJ w bq r c a l cap R k B va pl vc pv wx)
      case atStart => exact H0.out
      case round =>
        clear H0
        obtain ⟨f, rfl, hfF, rfl, hJ⟩ := hrel
        have J := hid hJ
        have y0 := hJ.q.at (i := 0) rfl
        have y1 := hJ.q.at (i := 1) rfl
        have y2 := hJ.q.at (i := 2) rfl
        clear hJ
        by_cases hff : f < F
        · have hfc : f < c := by omega
          have hfc' : (f : Int) < (c : Int) := by omega
          have hwf := wrapI9 (i := f) (by omega)
          have hix : i * c + f < l := by rw [HL.out]; exact zF_lt17 hlt hfc
          have HAT := hid (at17 (r := (r : Int)) J.out.v.qs (i := i) (j := f) (by omega) hc hix (by omega))
          have HN0 : Hid ((R (i * c + f)).num = 0) := by unfold Hid; rw [HZ.out f hff]; rfl
          have HMM : Hid (F - (f + 1) < F - f) := by unfold Hid; omega
          clear hix
          go_wp2_with fail
          refine HAT.out.mono ?_
          rintro e w2 ⟨n1, a1, l1, c1, n2, a2, l2, c2, rfl, hz1, hz2, b2⟩
          have J2 := hid (J.out.now b2)
          have HZE := hid (zero17 (n2 := n2) (a2 := a2) (l2 := l2) (c2 := c2) hz1)
          clear hz1 hz2 b2 HAT J y0 y1 y2
          go_wp2_with fail
          refine HZE.out.mono ?_
          rintro e w3 ⟨bb, rfl, hbb, b3⟩
          obtain rfl : bb = true := hbb.2 HN0.out
          have HN1 : Hid (∃ f' : Nat, Value.int .i64 ((f + 1 : Nat) : Int) = .int .i64 (f' : Int) ∧ f' ≤ F ∧ F - (f + 1) = F - f' ∧ EcJ w bq r c a l cap R k B va pl vc pv w3) := ⟨f + 1, rfl, by omega, rfl, J2.out.now b3⟩
          clear hbb b3 HZE J2 HN0
          go_wp2_with fail
          go_roundg (F - (f + 1))
          case rel => exact HN1.out
          case measure => exact HMM.out
        · obtain rfl : f = F := by omega
          rcases HF.out with ⟨hE, hpi⟩ | ⟨hE, hpi, hpv, h1v, hzs, hprev⟩
          · have hfc' : ¬ (f : Int) < (c : Int) := by omega
            have hge : (pl : Int) ≤ (i : Int) := by have := HPL.out; omega
            have HN1 : Hid (∃ i' : Nat, Value.int .i64 ((i + 1 : Nat) : Int) = .int .i64 (i' : Int) ∧ i' ≤ r ∧ r - (i + 1) = r - i' ∧ EcJ w bq r c a l cap R k B va pl vc pv wr) := ⟨i + 1, rfl, by omega, rfl, J.out⟩
            clear J HZ HF hE hpi
            go_wp2_with fail
            go_roundg (r - (i + 1))
            case rel => exact HN1.out
            case measure => exact HMO.out
          · have hfc' : (f : Int) < (c : Int) := by omega
            have hix : i * c + f < l := by rw [HL.out]; exact zF_lt17 hlt hE
            have HAT := hid (at17 (r := (r : Int)) J.out.v.qs (i := i) (j := f) (by omega) hc hix (by omega))
            have HN0 : Hid (R (i * c + f) = 1) := h1v
            have HZS := hid hzs
            have hge : ¬ (pl : Int) ≤ (i : Int) := by have := HPL.out; omega
            have hipl : i < pl := by have := HPL.out; omega
            obtain ⟨vb, rfl⟩ : ∃ vb, va = some ⟨vb, 0, none⟩ := by
              obtain ⟨a', cap', e1, e2, e3⟩ := J.out.p.form
              obtain ⟨g', e4⟩ := e3 (by omega)
              simp only [Value.slice.injEq] at e1
              exact ⟨g', by rw [e1.1, e4]⟩
            have HPV := hid hpv
            have HPR := hid hprev
            have HIX := hid hix
            clear hix h1v hzs hpi hpv hprev HF HZ
            go_wp2_with fail
            refine HAT.out.mono ?_
            rintro e w2 ⟨n1, a1, l1, c1, n2, a2, l2, c2, rfl, hz1, hz2, b2⟩
            have J2 := hid (J.out.now b2)
            have HZE := hid (zero17 (n2 := n2) (a2 := a2) (l2 := l2) (c2 := c2) hz1)
            clear hz1 hz2 b2 HAT J y0 y1 y2
            go_wp2_with fail
            refine HZE.out.mono ?_
            rintro e w3 ⟨bb, rfl, hbb, b3⟩
            obtain rfl : bb = false := by
              cases bb
              · rfl
              · have := hbb.1 rfl
                rw [HN0.out] at this
                exact absurd this (by decide)
            have J3 := hid (J2.out.now b3)
            have y1 := J3.out.q.at (i := 1) rfl
            clear hbb b3 HZE J2
            go_wp2_with fail
            have y0 := J3.out.q.at (i := 0) rfl
            have y2 := J3.out.q.at (i := 2) rfl
            have v0 := J3.out.p.at (i := i) (by rw [HPL.out]; exact hipl)
            rw [HPV.out] at v0
            have hne : ((f : Int) == (c : Int)) = false := by simp; omega
            have hne' : ¬ (f : Int) = (c : Int) := by omega
            have HA2 : Hid (∀ {w' : World}, Below w3.heap.size w3 w' → Calls Tryz.prog 37 #[(.agg #[.int .i64 (r : Int), .int .i64 (c : Int), .slice a l cap]), .int .i64 (i : Int), .int .i64 (f : Int)] w' (Atd w' (R (i * c + f)).num ((R (i * c + f)).den : Int) k)) := fun h => at17 (r := (r : Int)) (J3.out.v.now h).qs (i := i) (j := f) (by omega) hc HIX.out (by omega)
            by_cases hi0 : i = 0
            · have HI0 := hid hi0
              have hgt : ¬ (0 : Int) < (i : Int) := by omega
              have hgn : (0 < i) = False := by simp [hi0]
              clear hi0
              have KB : Hid (∀ w', Below w3.heap.size w3 w' → w'.cell? ⟨bq, 0, none⟩ = some (.int .i64 (r : Int)) ∧ w'.cell? ⟨bq, 1, none⟩ = some (.int .i64 (c : Int)) ∧ w'.cell? ⟨bq, 2, none⟩ = some (.slice a l cap) ∧ w'.cell? ⟨vb, i, none⟩ = some (.int .i64 (f : Int))) := fun w' h => ⟨cnow h y0, cnow h y1, cnow h y2, cnow h v0⟩
              refine wp_region_tail (fun w' => w'.cell? ⟨bq, 0, none⟩ = some (.int .i64 (r : Int)) ∧ w'.cell? ⟨bq, 1, none⟩ = some (.int .i64 (c : Int)) ∧ w'.cell? ⟨bq, 2, none⟩ = some (.slice a l cap) ∧ w'.cell? ⟨vb, i, none⟩ = some (.int .i64 (f : Int))) 35 (by kernel_rfl) ?_
              obtain ⟨D81, hD⟩ : ∃ D81, w3.drew = D81 := ⟨_, rfl⟩
              have GB : Hid (Below w3.heap.size w3 D81) := by unfold Hid; rw [← hD]; exact (Below.refl _ _).drew
              rw [hD]
              clear hD
              refine wpAnyT_take (i := 0) (oi := { dst := some 77, op := Op.move (Operand.tmp 6), type := 3, pos := "outright.go:57", after := #[], guard := none }) (v := (.int .i64 (f : Int))) rfl (by kernel_rfl) (fun _ _ _ h => h) (Or.inl ⟨by rfl, ?_⟩) (KB.out _ GB.out) ?_
              · intro w hSw
                (try dsimp only at hSw)
                go_simp
              simp only [Act.put, List.setIfInBounds_toArray, List.set_cons_zero, List.set_cons_succ]
              refine wpAnyT_take (i := 1) (oi := { dst := some 78, op := Op.fieldAddr 24 (Operand.tmp 2) 1, type := 0, pos := "outright.go:57", after := #[], guard := none }) (v := (.pointer (some ⟨bq, 1, none⟩))) rfl (by kernel_rfl) (fun _ _ _ h => h) (Or.inl ⟨by rfl, ?_⟩) (KB.out _ GB.out) ?_
              · intro w hSw
                (try dsimp only at hSw)
                go_simp
              simp only [Act.put, List.setIfInBounds_toArray, List.set_cons_zero, List.set_cons_succ]
              refine wpAnyT_take (i := 2) (oi := { dst := some 79, op := Op.load 3 (Operand.tmp 78), type := 3, pos := "outright.go:57", after := #[{ on := 1, ground := Ground.data }], guard := none }) (v := (.int .i64 (c : Int))) rfl (by kernel_rfl) (fun _ _ _ h => h) (Or.inl ⟨by rfl, ?_⟩) (KB.out _ GB.out) ?_
              · intro w hSw
                (try dsimp only at hSw)
                go_simp
              simp only [Act.put, List.setIfInBounds_toArray, List.set_cons_zero, List.set_cons_succ]
              refine wpAnyT_take (i := 3) (oi := { dst := some 80, op := Op.binOp BinOp.eql 3 (Operand.tmp 77) (Operand.tmp 79) 3, type := 4, pos := "outright.go:57", after := #[{ on := 0, ground := Ground.data }, { on := 2, ground := Ground.data }], guard := none }) (v := (.bool false)) rfl (by kernel_rfl) (fun _ _ _ h => h) (Or.inl ⟨by rfl, ?_⟩) (KB.out _ GB.out) ?_
              · intro w hSw
                (try dsimp only at hSw)
                go_simp
              simp only [Act.put, List.setIfInBounds_toArray, List.set_cons_zero, List.set_cons_succ]
              refine wpAnyT_take (i := 4) (oi := { dst := some 81, op := Op.move (Operand.tmp 80), type := 4, pos := "outright.go:57", after := #[{ on := 3, ground := Ground.data }], guard := none }) (v := (.bool false)) rfl (by kernel_rfl) (fun _ _ _ h => h) (Or.inl ⟨by rfl, ?_⟩) (KB.out _ GB.out) ?_
              · intro w hSw
                (try dsimp only at hSw)
                go_simp
              simp only [Act.put, List.setIfInBounds_toArray, List.set_cons_zero, List.set_cons_succ]
              refine wpAnyT_take (i := 5) (oi := { dst := some 82, op := Op.move (Operand.tmp 6), type := 3, pos := "outright.go:57", after := #[{ on := 4, ground := Ground.guard }], guard := some (4, false) }) (v := (.int .i64 (f : Int))) rfl (by kernel_rfl) (fun _ _ _ h => h) (Or.inl ⟨by rfl, ?_⟩) (KB.out _ GB.out) ?_
              · intro w hSw
                (try dsimp only at hSw)
                go_simp
              simp only [Act.put, List.setIfInBounds_toArray, List.set_cons_zero, List.set_cons_succ]
              refine wpAnyT_take (i := 6) (oi := { dst := some 83, op := Op.move (Operand.tmp 1), type := 26, pos := "outright.go:57", after := #[{ on := 4, ground := Ground.guard }], guard := some (4, false) }) (v := (.slice (some ⟨vb, 0, none⟩) pl vc)) rfl (by kernel_rfl) (fun _ _ _ h => h) (Or.inl ⟨by rfl, ?_⟩) (KB.out _ GB.out) ?_
              · intro w hSw
                (try dsimp only at hSw)
                go_simp
              simp only [Act.put, List.setIfInBounds_toArray, List.set_cons_zero, List.set_cons_succ]
              refine wpAnyT_take (i := 7) (oi := { dst := some 84, op := Op.move (Operand.tmp 5), type := 3, pos := "outright.go:57", after := #[{ on := 4, ground := Ground.guard }], guard := some (4, false) }) (v := (.int .i64 (i : Int))) rfl (by kernel_rfl) (fun _ _ _ h => h) (Or.inl ⟨by rfl, ?_⟩) (KB.out _ GB.out) ?_
              · intro w hSw
                (try dsimp only at hSw)
                go_simp
              simp only [Act.put, List.setIfInBounds_toArray, List.set_cons_zero, List.set_cons_succ]
              refine wpAnyT_take (i := 8) (oi := { dst := some 85, op := Op.indexAddr 26 (Operand.tmp 83) (Operand.tmp 84), type := 0, pos := "outright.go:57", after := #[{ on := 6, ground := Ground.data }, { on := 7, ground := Ground.data }, { on := 4, ground := Ground.guard }], guard := some (4, false) }) (v := (.pointer (some ⟨vb, i, none⟩))) rfl (by kernel_rfl) (fun _ _ _ h => h) (Or.inl ⟨by rfl, ?_⟩) (KB.out _ GB.out) ?_
              · intro w hSw
                (try dsimp only at hSw)
                go_simp
              simp only [Act.put, List.setIfInBounds_toArray, List.set_cons_zero, List.set_cons_succ]
              refine wpAnyT_take (i := 9) (oi := { dst := some 86, op := Op.load 3 (Operand.tmp 85), type := 3, pos := "outright.go:57", after := #[{ on := 8, ground := Ground.data }, { on := 4, ground := Ground.guard }], guard := some (4, false) }) (v := (.int .i64 (f : Int))) rfl (by kernel_rfl) (fun _ _ _ h => h) (Or.inl ⟨by rfl, ?_⟩) (KB.out _ GB.out) ?_
              · intro w hSw
                (try dsimp only at hSw)
                go_simp
              simp only [Act.put, List.setIfInBounds_toArray, List.set_cons_zero, List.set_cons_succ]
              refine wpAnyT_take (i := 10) (oi := { dst := some 87, op := Op.binOp BinOp.neq 3 (Operand.tmp 82) (Operand.tmp 86) 3, type := 4, pos := "outright.go:57", after := #[{ on := 5, ground := Ground.data }, { on := 9, ground := Ground.data }, { on := 4, ground := Ground.guard }], guard := some (4, false) }) (v := (.bool false)) rfl (by kernel_rfl) (fun _ _ _ h => h) (Or.inl ⟨by rfl, ?_⟩) (KB.out _ GB.out) ?_
              · intro w hSw
                (try dsimp only at hSw)
                go_simp
              simp only [Act.put, List.setIfInBounds_toArray, List.set_cons_zero, List.set_cons_succ]
              refine wpAnyT_take (i := 11) (oi := { dst := some 88, op := Op.pick (Operand.tmp 81) (Operand.const (Value.bool true)) (Operand.tmp 87), type := 4, pos := "outright.go:57", after := #[{ on := 4, ground := Ground.data }, { on := 10, ground := Ground.data }], guard := none }) (v := (.bool false)) rfl (by kernel_rfl) (fun _ _ _ h => h) (Or.inl ⟨by rfl, ?_⟩) (KB.out _ GB.out) ?_
              · intro w hSw
                (try dsimp only at hSw)
                go_simp
              simp only [Act.put, List.setIfInBounds_toArray, List.set_cons_zero, List.set_cons_succ]
              refine wpAnyT_take (i := 12) (oi := { dst := some 89, op := Op.move (Operand.tmp 88), type := 4, pos := "outright.go:57", after := #[{ on := 11, ground := Ground.data }, { on := 4, ground := Ground.chain }], guard := none }) (v := (.bool false)) rfl (by kernel_rfl) (fun _ _ _ h => h) (Or.inl ⟨by rfl, ?_⟩) (KB.out _ GB.out) ?_
              · intro w hSw
                (try dsimp only at hSw)
                go_simp
              simp only [Act.put, List.setIfInBounds_toArray, List.set_cons_zero, List.set_cons_succ]
              refine wpAnyT_take (i := 13) (oi := { dst := some 90, op := Op.load 24 (Operand.tmp 2), type := 24, pos := "outright.go:57", after := #[{ on := 12, ground := Ground.guard }], guard := some (12, false) }) (v := (.agg #[.int .i64 (r : Int), .int .i64 (c : Int), .slice a l cap])) rfl (by kernel_rfl) (fun _ _ _ h => h) (Or.inl ⟨by rfl, ?_⟩) (KB.out _ GB.out) ?_
              · intro w hSw
                (try dsimp only at hSw)
                go_simp
              simp only [Act.put, List.setIfInBounds_toArray, List.set_cons_zero, List.set_cons_succ]
              refine wpAnyT_take (i := 14) (oi := { dst := some 91, op := Op.move (Operand.tmp 5), type := 3, pos := "outright.go:57", after := #[{ on := 12, ground := Ground.guard }], guard := some (12, false) }) (v := (.int .i64 (i : Int))) rfl (by kernel_rfl) (fun _ _ _ h => h) (Or.inl ⟨by rfl, ?_⟩) (KB.out _ GB.out) ?_
              · intro w hSw
                (try dsimp only at hSw)
                go_simp
              simp only [Act.put, List.setIfInBounds_toArray, List.set_cons_zero, List.set_cons_succ]
              refine wpAnyT_take (i := 15) (oi := { dst := some 92, op := Op.move (Operand.tmp 6), type := 3, pos := "outright.go:57", after := #[{ on := 12, ground := Ground.guard }], guard := some (12, false) }) (v := (.int .i64 (f : Int))) rfl (by kernel_rfl) (fun _ _ _ h => h) (Or.inl ⟨by rfl, ?_⟩) (KB.out _ GB.out) ?_
              · intro w hSw
                (try dsimp only at hSw)
                go_simp
              simp only [Act.put, List.setIfInBounds_toArray, List.set_cons_zero, List.set_cons_succ]
              refine wpAnyT_one (i := 16) (o := { dst := some 93, op := Op.call { callee := Callee.value (Operand.func 37), args := #[Operand.tmp 90, Operand.tmp 91, Operand.tmp 92], argTypes := #[24, 3, 3] }, type := 47, pos := "outright.go:57", after := #[{ on := 13, ground := Ground.data }, { on := 14, ground := Ground.data }, { on := 15, ground := Ground.data }, { on := 12, ground := Ground.chain }, { on := 12, ground := Ground.guard }], guard := some (12, false) }) (by kernel_rfl) rfl (fun K hK => ?_)
              go_simp
              go_at_call 37
              refine (HA2.out GB.out).mono ?_
              rintro e w82 ⟨n3, a3, l3, c3, n4, a4, l4, c4, rfl, hz1, hz2, b⟩
              have lz82 := (show Below _ _ _ from b).size
              replace GB := hid (below_step GB.out b)
              have ZA := hid (And.intro hz1 hz2)
              clear hz1 hz2
              clear b
              refine hK.out _ _ (fun _ => KB.out _ GB.out) ?_
              clear hK
              refine wpAnyT_one (i := 17) (o := { dst := some 94, op := Op.call { callee := Callee.value (Operand.func 38), args := #[Operand.tmp 93], argTypes := #[47] }, type := 4, pos := "outright.go:57", after := #[{ on := 16, ground := Ground.data }, { on := 16, ground := Ground.chain }, { on := 12, ground := Ground.guard }], guard := some (12, false) }) (by kernel_rfl) rfl (fun K hK => ?_)
              go_simp
              go_at_call 38
              refine (one17 (by have h := ZA.out.1; rw [HN0.out] at h; exact h) (by have h := ZA.out.2; rw [HN0.out] at h; exact h)).mono ?_
              rintro e w83 ⟨rfl, b⟩
              have lz83 := (show Below _ _ _ from b).size
              replace GB := hid (below_step GB.out b)
              clear ZA
              clear b
              refine hK.out _ _ (fun _ => KB.out _ GB.out) ?_
              clear hK
              refine wpAnyT_take (i := 18) (oi := { dst := some 95, op := Op.unOp UnOp.not 4 (Operand.tmp 94), type := 4, pos := "outright.go:57", after := #[{ on := 17, ground := Ground.data }, { on := 12, ground := Ground.guard }], guard := some (12, false) }) (v := (.bool false)) rfl (by kernel_rfl) (fun _ _ _ h => h) (Or.inl ⟨by rfl, ?_⟩) (KB.out _ GB.out) ?_
              · intro w hSw
                (try dsimp only at hSw)
                go_simp
              simp only [Act.put, List.setIfInBounds_toArray, List.set_cons_zero, List.set_cons_succ]
              refine wpAnyT_take (i := 19) (oi := { dst := some 96, op := Op.pick (Operand.tmp 89) (Operand.const (Value.bool true)) (Operand.tmp 95), type := 4, pos := "outright.go:57", after := #[{ on := 12, ground := Ground.data }, { on := 18, ground := Ground.data }], guard := none }) (v := (.bool false)) rfl (by kernel_rfl) (fun _ _ _ h => h) (Or.inl ⟨by rfl, ?_⟩) (KB.out _ GB.out) ?_
              · intro w hSw
                (try dsimp only at hSw)
                go_simp
              simp only [Act.put, List.setIfInBounds_toArray, List.set_cons_zero, List.set_cons_succ]
              refine wpAnyT_take (i := 20) (oi := { dst := some 97, op := Op.move (Operand.tmp 96), type := 4, pos := "outright.go:57", after := #[{ on := 19, ground := Ground.data }, { on := 17, ground := Ground.chain }], guard := none }) (v := (.bool false)) rfl (by kernel_rfl) (fun _ _ _ h => h) (Or.inl ⟨by rfl, ?_⟩) (KB.out _ GB.out) ?_
              · intro w hSw
                (try dsimp only at hSw)
                go_simp
              simp only [Act.put, List.setIfInBounds_toArray, List.set_cons_zero, List.set_cons_succ]
              refine wpAnyT_take (i := 21) (oi := { dst := some 98, op := Op.move (Operand.tmp 5), type := 3, pos := "outright.go:57", after := #[{ on := 20, ground := Ground.guard }], guard := some (20, false) }) (v := (.int .i64 (i : Int))) rfl (by kernel_rfl) (fun _ _ _ h => h) (Or.inl ⟨by rfl, ?_⟩) (KB.out _ GB.out) ?_
              · intro w hSw
                (try dsimp only at hSw)
                go_simp
              simp only [Act.put, List.setIfInBounds_toArray, List.set_cons_zero, List.set_cons_succ]
              refine wpAnyT_take (i := 22) (oi := { dst := some 99, op := Op.binOp BinOp.gtr 3 (Operand.tmp 98) (Operand.const (Value.int IntKind.i64 0)) 3, type := 4, pos := "outright.go:57", after := #[{ on := 21, ground := Ground.data }, { on := 20, ground := Ground.guard }], guard := some (20, false) }) (v := (.bool false)) rfl (by kernel_rfl) (fun _ _ _ h => h) (Or.inl ⟨by rfl, ?_⟩) (KB.out _ GB.out) ?_
              · intro w hSw
                (try dsimp only at hSw)
                go_simp
              simp only [Act.put, List.setIfInBounds_toArray, List.set_cons_zero, List.set_cons_succ]
              refine wpAnyT_take (i := 23) (oi := { dst := some 100, op := Op.move (Operand.tmp 99), type := 4, pos := "outright.go:57", after := #[{ on := 22, ground := Ground.data }, { on := 20, ground := Ground.chain }, { on := 20, ground := Ground.guard }], guard := some (20, false) }) (v := (.bool false)) rfl (by kernel_rfl) (fun _ _ _ h => h) (Or.inl ⟨by rfl, ?_⟩) (KB.out _ GB.out) ?_
              · intro w hSw
                (try dsimp only at hSw)
                go_simp
              simp only [Act.put, List.setIfInBounds_toArray, List.set_cons_zero, List.set_cons_succ]
              refine wpAnyT_take (i := 24) (oi := { dst := some 101, op := Op.move (Operand.tmp 1), type := 26, pos := "outright.go:57", after := #[{ on := 23, ground := Ground.guard }], guard := some (23, true) }) (v := undef) rfl (by kernel_rfl) (fun _ _ _ h => h) (Or.inr ⟨by rfl, rfl⟩) (KB.out _ GB.out) ?_
              simp only [Act.put, List.setIfInBounds_toArray, List.set_cons_zero, List.set_cons_succ]
              refine wpAnyT_take (i := 25) (oi := { dst := some 102, op := Op.move (Operand.tmp 5), type := 3, pos := "outright.go:57", after := #[{ on := 23, ground := Ground.guard }], guard := some (23, true) }) (v := undef) rfl (by kernel_rfl) (fun _ _ _ h => h) (Or.inr ⟨by rfl, rfl⟩) (KB.out _ GB.out) ?_
              simp only [Act.put, List.setIfInBounds_toArray, List.set_cons_zero, List.set_cons_succ]
              refine wpAnyT_take (i := 26) (oi := { dst := some 103, op := Op.indexAddr 26 (Operand.tmp 101) (Operand.tmp 102), type := 0, pos := "outright.go:57", after := #[{ on := 24, ground := Ground.data }, { on := 25, ground := Ground.data }, { on := 23, ground := Ground.guard }], guard := some (23, true) }) (v := undef) rfl (by kernel_rfl) (fun _ _ _ h => h) (Or.inr ⟨by rfl, rfl⟩) (KB.out _ GB.out) ?_
              simp only [Act.put, List.setIfInBounds_toArray, List.set_cons_zero, List.set_cons_succ]
              refine wpAnyT_take (i := 27) (oi := { dst := some 104, op := Op.load 3 (Operand.tmp 103), type := 3, pos := "outright.go:57", after := #[{ on := 26, ground := Ground.data }, { on := 23, ground := Ground.guard }], guard := some (23, true) }) (v := undef) rfl (by kernel_rfl) (fun _ _ _ h => h) (Or.inr ⟨by rfl, rfl⟩) (KB.out _ GB.out) ?_
              simp only [Act.put, List.setIfInBounds_toArray, List.set_cons_zero, List.set_cons_succ]
              refine wpAnyT_take (i := 28) (oi := { dst := some 105, op := Op.move (Operand.tmp 1), type := 26, pos := "outright.go:57", after := #[{ on := 23, ground := Ground.guard }], guard := some (23, true) }) (v := undef) rfl (by kernel_rfl) (fun _ _ _ h => h) (Or.inr ⟨by rfl, rfl⟩) (KB.out _ GB.out) ?_
              simp only [Act.put, List.setIfInBounds_toArray, List.set_cons_zero, List.set_cons_succ]
              refine wpAnyT_take (i := 29) (oi := { dst := some 106, op := Op.move (Operand.tmp 5), type := 3, pos := "outright.go:57", after := #[{ on := 23, ground := Ground.guard }], guard := some (23, true) }) (v := undef) rfl (by kernel_rfl) (fun _ _ _ h => h) (Or.inr ⟨by rfl, rfl⟩) (KB.out _ GB.out) ?_
              simp only [Act.put, List.setIfInBounds_toArray, List.set_cons_zero, List.set_cons_succ]
              refine wpAnyT_take (i := 30) (oi := { dst := some 107, op := Op.binOp BinOp.sub 3 (Operand.tmp 106) (Operand.const (Value.int IntKind.i64 1)) 3, type := 3, pos := "outright.go:57", after := #[{ on := 29, ground := Ground.data }, { on := 23, ground := Ground.guard }], guard := some (23, true) }) (v := undef) rfl (by kernel_rfl) (fun _ _ _ h => h) (Or.inr ⟨by rfl, rfl⟩) (KB.out _ GB.out) ?_
              simp only [Act.put, List.setIfInBounds_toArray, List.set_cons_zero, List.set_cons_succ]
              refine wpAnyT_take (i := 31) (oi := { dst := some 108, op := Op.indexAddr 26 (Operand.tmp 105) (Operand.tmp 107), type := 0, pos := "outright.go:57", after := #[{ on := 28, ground := Ground.data }, { on := 30, ground := Ground.data }, { on := 23, ground := Ground.guard }], guard := some (23, true) }) (v := undef) rfl (by kernel_rfl) (fun _ _ _ h => h) (Or.inr ⟨by rfl, rfl⟩) (KB.out _ GB.out) ?_
              simp only [Act.put, List.setIfInBounds_toArray, List.set_cons_zero, List.set_cons_succ]
              refine wpAnyT_take (i := 32) (oi := { dst := some 109, op := Op.load 3 (Operand.tmp 108), type := 3, pos := "outright.go:57", after := #[{ on := 31, ground := Ground.data }, { on := 23, ground := Ground.guard }], guard := some (23, true) }) (v := undef) rfl (by kernel_rfl) (fun _ _ _ h => h) (Or.inr ⟨by rfl, rfl⟩) (KB.out _ GB.out) ?_
              simp only [Act.put, List.setIfInBounds_toArray, List.set_cons_zero, List.set_cons_succ]
              refine wpAnyT_take (i := 33) (oi := { dst := some 110, op := Op.binOp BinOp.leq 3 (Operand.tmp 104) (Operand.tmp 109) 3, type := 4, pos := "outright.go:57", after := #[{ on := 27, ground := Ground.data }, { on := 32, ground := Ground.data }, { on := 23, ground := Ground.guard }], guard := some (23, true) }) (v := undef) rfl (by kernel_rfl) (fun _ _ _ h => h) (Or.inr ⟨by rfl, rfl⟩) (KB.out _ GB.out) ?_
              simp only [Act.put, List.setIfInBounds_toArray, List.set_cons_zero, List.set_cons_succ]
              refine wpAnyT_take (i := 34) (oi := { dst := some 111, op := Op.pick (Operand.tmp 100) (Operand.tmp 110) (Operand.const (Value.bool false)), type := 4, pos := "outright.go:57", after := #[{ on := 23, ground := Ground.data }, { on := 33, ground := Ground.data }, { on := 20, ground := Ground.guard }], guard := some (20, false) }) (v := (.bool false)) rfl (by kernel_rfl) (fun _ _ _ h => h) (Or.inl ⟨by rfl, ?_⟩) (KB.out _ GB.out) ?_
              · intro w hSw
                (try dsimp only at hSw)
                go_simp
              simp only [Act.put, List.setIfInBounds_toArray, List.set_cons_zero, List.set_cons_succ]
              refine wpAnyT_one (i := 35) (o := { dst := some 112, op := Op.pick (Operand.tmp 97) (Operand.const (Value.bool true)) (Operand.tmp 111), type := 4, pos := "outright.go:57", after := #[{ on := 20, ground := Ground.data }, { on := 34, ground := Ground.data }], guard := none }) (by kernel_rfl) rfl (fun K hK => ?_)
              go_simp
              refine hK.out _ _ (fun h => absurd h (by decide)) ?_
              clear hK
              try simp only [Act.put]
              refine wpAnyT_done (by kernel_rfl) ?_ _
              have J4 := hid (J3.out.now GB.out)
              have y0' := J4.out.q.at (i := 0) rfl
              have H0 : Hid (∃ t : Nat, Value.int .i64 0 = .int .i64 (t : Int) ∧ t ≤ r ∧ r = r - t ∧ EcJ w bq r c a l cap R k B (some ⟨vb, 0, none⟩) pl vc pv w83) := ⟨0, rfl, Nat.zero_le _, rfl, J4.out⟩
              clear GB KB J3 J4 y0 y1 y2 v0 HA2 
              go_wp2_with fail
              clear y0'
              go_loopg [7] r (fun gk s7 wx => ∃ t : Nat, s7 = .int .i64 (t : Int) ∧ t ≤ r ∧ gk = r - t ∧ EcJ w bq r c a l cap R k B (some ⟨vb, 0, none⟩) pl vc pv wx)
              case atStart => exact H0.out
              case round =>
                clear H0
                obtain ⟨t, rfl, htr, rfl, hJ⟩ := hrel
                have J := hid hJ
                have y0 := hJ.q.at (i := 0) rfl
                have y1 := hJ.q.at (i := 1) rfl
                have y2 := hJ.q.at (i := 2) rfl
                clear hJ
                by_cases htl : t < r
                · have htl' : (t : Int) < (r : Int) := by omega
                  have hwt := wrapI9 (i := t) (by omega)
                  have HMM : Hid (r - (t + 1) < r - t) := by unfold Hid; omega
                  by_cases hti : t = i
                  · subst hti
                    have HN1 : Hid (∃ t' : Nat, Value.int .i64 ((t + 1 : Nat) : Int) = .int .i64 (t' : Int) ∧ t' ≤ r ∧ r - (t + 1) = r - t' ∧ EcJ w bq r c a l cap R k B (some ⟨vb, 0, none⟩) pl vc pv wr) := ⟨t + 1, rfl, by omega, rfl, J.out⟩
                    clear J
                    go_wp2_with fail
                    go_roundg (r - (t + 1))
                    case rel => exact HN1.out
                    case measure => exact HMM.out
                  · have hte : ¬ (t : Int) = (i : Int) := by omega
                    have htb : ((t : Int) != (i : Int)) = true := by simp; omega
                    have hix : t * c + f < l := by rw [HL.out]; exact zF_lt17 htl hE
                    have HAT := hid (at17 (r := (r : Int)) J.out.v.qs (i := t) (j := f) (by omega) hc hix (by omega))
                    have HN2 : Hid ((R (t * c + f)).num = 0) := by unfold Hid; rw [HZS.out t htl hti]; rfl
                    clear hix hti
                    go_wp2_with fail
                    refine HAT.out.mono ?_
                    rintro e w7 ⟨m1, o1, p1, q1, m2, o2, p2, q2, rfl, hz1, hz2, b2⟩
                    have J2 := hid (J.out.now b2)
                    have HZE := hid (zero17 (n2 := m2) (a2 := o2) (l2 := p2) (c2 := q2) hz1)
                    clear hz1 hz2 b2 HAT J y0 y1 y2
                    go_wp2_with fail
                    refine HZE.out.mono ?_
                    rintro e w8 ⟨bb, rfl, hbb, b3⟩
                    obtain rfl : bb = true := hbb.2 HN2.out
                    have HN1 : Hid (∃ t' : Nat, Value.int .i64 ((t + 1 : Nat) : Int) = .int .i64 (t' : Int) ∧ t' ≤ r ∧ r - (t + 1) = r - t' ∧ EcJ w bq r c a l cap R k B (some ⟨vb, 0, none⟩) pl vc pv w8) := ⟨t + 1, rfl, by omega, rfl, J2.out.now b3⟩
                    clear hbb b3 HZE J2 HN2
                    go_wp2_with fail
                    go_roundg (r - (t + 1))
                    case rel => exact HN1.out
                    case measure => exact HMM.out
                · have htl' : ¬ (t : Int) < (r : Int) := by omega
                  have HN1 : Hid (∃ i' : Nat, Value.int .i64 ((i + 1 : Nat) : Int) = .int .i64 (i' : Int) ∧ i' ≤ r ∧ r - (i + 1) = r - i' ∧ EcJ w bq r c a l cap R k B (some ⟨vb, 0, none⟩) pl vc pv wr) := ⟨i + 1, rfl, by omega, rfl, J.out⟩
                  clear J HZS
                  go_wp2_with fail
                  go_roundg (r - (i + 1))
                  case rel => exact HN1.out
                  case measure => exact HMO.out
            · obtain ⟨s, hs⟩ : ∃ s, i - 1 = s := ⟨_, rfl⟩
              have hgt : (0 : Int) < (i : Int) := by omega
              have hgn : 0 < i := by omega
              have hws : IntKind.i64.wrap ((i : Int) - 1) = (s : Int) := by rw [wrap_is] <;> omega
              have v1 := J3.out.p.at (i := s) (by rw [HPL.out]; omega)
              obtain ⟨g, hg⟩ : ∃ g, pv.getD s 0 = g := ⟨_, rfl⟩
              rw [hg] at v1
              have hgf : ¬ (f : Int) ≤ (g : Int) := by have := HPR.out (by omega); rw [hs, hg] at this; omega
              have hspl : s < pl := by omega
              have HS := hid hs
              clear hs hg hi0
              have KB : Hid (∀ w', Below w3.heap.size w3 w' → w'.cell? ⟨bq, 0, none⟩ = some (.int .i64 (r : Int)) ∧ w'.cell? ⟨bq, 1, none⟩ = some (.int .i64 (c : Int)) ∧ w'.cell? ⟨bq, 2, none⟩ = some (.slice a l cap) ∧ w'.cell? ⟨vb, i, none⟩ = some (.int .i64 (f : Int)) ∧ w'.cell? ⟨vb, s, none⟩ = some (.int .i64 (g : Int))) := fun w' h => ⟨cnow h y0, cnow h y1, cnow h y2, cnow h v0, cnow h v1⟩
              refine wp_region_tail (fun w' => w'.cell? ⟨bq, 0, none⟩ = some (.int .i64 (r : Int)) ∧ w'.cell? ⟨bq, 1, none⟩ = some (.int .i64 (c : Int)) ∧ w'.cell? ⟨bq, 2, none⟩ = some (.slice a l cap) ∧ w'.cell? ⟨vb, i, none⟩ = some (.int .i64 (f : Int)) ∧ w'.cell? ⟨vb, s, none⟩ = some (.int .i64 (g : Int))) 35 (by kernel_rfl) ?_
              obtain ⟨D61, hD⟩ : ∃ D61, w3.drew = D61 := ⟨_, rfl⟩
              have GB : Hid (Below w3.heap.size w3 D61) := by unfold Hid; rw [← hD]; exact (Below.refl _ _).drew
              rw [hD]
              clear hD
              refine wpAnyT_list [(0, (.int .i64 (f : Int))), (1, (.pointer (some ⟨bq, 1, none⟩))), (2, (.int .i64 (c : Int))), (3, (.bool false)), (4, (.bool false)), (5, (.int .i64 (f : Int))), (6, (.slice (some ⟨vb, 0, none⟩) pl vc)), (7, (.int .i64 (i : Int))), (8, (.pointer (some ⟨vb, i, none⟩))), (9, (.int .i64 (f : Int))), (10, (.bool false)), (11, (.bool false)), (12, (.bool false)), (13, (.agg #[.int .i64 (r : Int), .int .i64 (c : Int), .slice a l cap])), (14, (.int .i64 (i : Int))), (15, (.int .i64 (f : Int)))] 16 ?_ (KB.out _ GB.out) ?_
              · simp only [TakesV, gA9, g09, g19, Act.put, sI9, s09, s19]
                (repeat' (first | exact trivial | refine And.intro (Or.inl ⟨by rfl, ?_⟩) ?_)) <;> (intro w hSw; (try dsimp only at hSw); go_simp)
              simp only [actV, gA9, g09, g19, Act.put, sI9, s09, s19]
              refine wpAnyT_one (i := 16) (o := { dst := some 93, op := Op.call { callee := Callee.value (Operand.func 37), args := #[Operand.tmp 90, Operand.tmp 91, Operand.tmp 92], argTypes := #[24, 3, 3] }, type := 47, pos := "outright.go:57", after := #[{ on := 13, ground := Ground.data }, { on := 14, ground := Ground.data }, { on := 15, ground := Ground.data }, { on := 12, ground := Ground.chain }, { on := 12, ground := Ground.guard }], guard := some (12, false) }) (by kernel_rfl) rfl (fun K hK => ?_)
              go_simp
              go_at_call 37
              refine (HA2.out GB.out).mono ?_
              rintro e w62 ⟨n3, a3, l3, c3, n4, a4, l4, c4, rfl, hz1, hz2, b⟩
              have lz62 := (show Below _ _ _ from b).size
              replace GB := hid (below_step GB.out b)
              have ZA := hid (And.intro hz1 hz2)
              clear hz1 hz2
              clear b
              refine hK.out _ _ (fun _ => KB.out _ GB.out) ?_
              clear hK
              refine wpAnyT_one (i := 17) (o := { dst := some 94, op := Op.call { callee := Callee.value (Operand.func 38), args := #[Operand.tmp 93], argTypes := #[47] }, type := 4, pos := "outright.go:57", after := #[{ on := 16, ground := Ground.data }, { on := 16, ground := Ground.chain }, { on := 12, ground := Ground.guard }], guard := some (12, false) }) (by kernel_rfl) rfl (fun K hK => ?_)
              go_simp
              go_at_call 38
              refine (one17 (by have h := ZA.out.1; rw [HN0.out] at h; exact h) (by have h := ZA.out.2; rw [HN0.out] at h; exact h)).mono ?_
              rintro e w63 ⟨rfl, b⟩
              have lz63 := (show Below _ _ _ from b).size
              replace GB := hid (below_step GB.out b)
              clear ZA
              clear b
              refine hK.out _ _ (fun _ => KB.out _ GB.out) ?_
              clear hK
              refine wpAnyT_list [(18, (.bool false)), (19, (.bool false)), (20, (.bool false)), (21, (.int .i64 (i : Int))), (22, (.bool true)), (23, (.bool true)), (24, (.slice (some ⟨vb, 0, none⟩) pl vc)), (25, (.int .i64 (i : Int))), (26, (.pointer (some ⟨vb, i, none⟩))), (27, (.int .i64 (f : Int))), (28, (.slice (some ⟨vb, 0, none⟩) pl vc)), (29, (.int .i64 (i : Int))), (30, (.int .i64 (s : Int))), (31, (.pointer (some ⟨vb, s, none⟩))), (32, (.int .i64 (g : Int))), (33, (.bool false)), (34, (.bool false))] 17 ?_ (KB.out _ GB.out) ?_
              · simp only [TakesV, gA9, g09, g19, Act.put, sI9, s09, s19]
                (repeat' (first | exact trivial | refine And.intro (Or.inl ⟨by rfl, ?_⟩) ?_)) <;> (intro w hSw; (try dsimp only at hSw); go_simp)
              simp only [actV, gA9, g09, g19, Act.put, sI9, s09, s19]
              refine wpAnyT_one (i := 35) (o := { dst := some 112, op := Op.pick (Operand.tmp 97) (Operand.const (Value.bool true)) (Operand.tmp 111), type := 4, pos := "outright.go:57", after := #[{ on := 20, ground := Ground.data }, { on := 34, ground := Ground.data }], guard := none }) (by kernel_rfl) rfl (fun K hK => ?_)
              go_simp
              refine hK.out _ _ (fun h => absurd h (by decide)) ?_
              clear hK
              try simp only [Act.put]
              refine wpAnyT_done (by kernel_rfl) ?_ _
              have J4 := hid (J3.out.now GB.out)
              have y0' := J4.out.q.at (i := 0) rfl
              have H0 : Hid (∃ t : Nat, Value.int .i64 0 = .int .i64 (t : Int) ∧ t ≤ r ∧ r = r - t ∧ EcJ w bq r c a l cap R k B (some ⟨vb, 0, none⟩) pl vc pv w63) := ⟨0, rfl, Nat.zero_le _, rfl, J4.out⟩
              clear GB KB J3 J4 y0 y1 y2 v0 HA2 v1
              go_wp2_with fail
              clear y0'
              go_loopg [7] r (fun gk s7 wx => ∃ t : Nat, s7 = .int .i64 (t : Int) ∧ t ≤ r ∧ gk = r - t ∧ EcJ w bq r c a l cap R k B (some ⟨vb, 0, none⟩) pl vc pv wx)
              case atStart => exact H0.out
              case round =>
                clear H0
                obtain ⟨t, rfl, htr, rfl, hJ⟩ := hrel
                have J := hid hJ
                have y0 := hJ.q.at (i := 0) rfl
                have y1 := hJ.q.at (i := 1) rfl
                have y2 := hJ.q.at (i := 2) rfl
                clear hJ
                by_cases htl : t < r
                · have htl' : (t : Int) < (r : Int) := by omega
                  have hwt := wrapI9 (i := t) (by omega)
                  have HMM : Hid (r - (t + 1) < r - t) := by unfold Hid; omega
                  by_cases hti : t = i
                  · subst hti
                    have HN1 : Hid (∃ t' : Nat, Value.int .i64 ((t + 1 : Nat) : Int) = .int .i64 (t' : Int) ∧ t' ≤ r ∧ r - (t + 1) = r - t' ∧ EcJ w bq r c a l cap R k B (some ⟨vb, 0, none⟩) pl vc pv wr) := ⟨t + 1, rfl, by omega, rfl, J.out⟩
                    clear J
                    go_wp2_with fail
                    go_roundg (r - (t + 1))
                    case rel => exact HN1.out
                    case measure => exact HMM.out
                  · have hte : ¬ (t : Int) = (i : Int) := by omega
                    have htb : ((t : Int) != (i : Int)) = true := by simp; omega
                    have hix : t * c + f < l := by rw [HL.out]; exact zF_lt17 htl hE
                    have HAT := hid (at17 (r := (r : Int)) J.out.v.qs (i := t) (j := f) (by omega) hc hix (by omega))
                    have HN2 : Hid ((R (t * c + f)).num = 0) := by unfold Hid; rw [HZS.out t htl hti]; rfl
                    clear hix hti
                    go_wp2_with fail
                    refine HAT.out.mono ?_
                    rintro e w7 ⟨m1, o1, p1, q1, m2, o2, p2, q2, rfl, hz1, hz2, b2⟩
                    have J2 := hid (J.out.now b2)
                    have HZE := hid (zero17 (n2 := m2) (a2 := o2) (l2 := p2) (c2 := q2) hz1)
                    clear hz1 hz2 b2 HAT J y0 y1 y2
                    go_wp2_with fail
                    refine HZE.out.mono ?_
                    rintro e w8 ⟨bb, rfl, hbb, b3⟩
                    obtain rfl : bb = true := hbb.2 HN2.out
                    have HN1 : Hid (∃ t' : Nat, Value.int .i64 ((t + 1 : Nat) : Int) = .int .i64 (t' : Int) ∧ t' ≤ r ∧ r - (t + 1) = r - t' ∧ EcJ w bq r c a l cap R k B (some ⟨vb, 0, none⟩) pl vc pv w8) := ⟨t + 1, rfl, by omega, rfl, J2.out.now b3⟩
                    clear hbb b3 HZE J2 HN2
                    go_wp2_with fail
                    go_roundg (r - (t + 1))
                    case rel => exact HN1.out
                    case measure => exact HMM.out
                · have htl' : ¬ (t : Int) < (r : Int) := by omega
                  have HN1 : Hid (∃ i' : Nat, Value.int .i64 ((i + 1 : Nat) : Int) = .int .i64 (i' : Int) ∧ i' ≤ r ∧ r - (i + 1) = r - i' ∧ EcJ w bq r c a l cap R k B (some ⟨vb, 0, none⟩) pl vc pv wr) := ⟨i + 1, rfl, by omega, rfl, J.out⟩
                  clear J HZS
                  go_wp2_with fail
                  go_roundg (r - (i + 1))
                  case rel => exact HN1.out
                  case measure => exact HMO.out
    · have hlt' : ¬ (i : Int) < (r : Int) := by omega
      have G := hid J.out.b
      clear J
      go_wp2
      go_ret
      exact ⟨rfl, G.out⟩
end Go.Proofs.YtcceoildbnoliaaGreat
