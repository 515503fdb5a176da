/-
  Wm16: charpoly.withOneMore.
-/
import Derived.Test.YtnpcfohimlfbdaaQAj16ToInts9
import Derived.Test.YtnpcfohimlfbdaaQPickB9
namespace Go.Proofs.Ytnpcfohimlfbdaa
open Go.RowKit
set_option linter.unusedVariables false
set_option linter.unusedSimpArgs false

theorem Mx.ent16 {w : World} {r c k la qa p : Nat} {aa : Option Addr} {zs : List Int} (h : Mx w (matv r c (.slice aa la qa)) r c zs k) (hp : p < r * c) :
    ∃ ba off nv av lv cv, aa = some ⟨ba, off, none⟩ ∧ p < la ∧ w.cell? ⟨ba, off + p * 2, none⟩ = some (.bool nv) ∧ w.cell? ⟨ba, off + p * 2 + 1, none⟩ = some (.slice av lv cv) ∧ Zi w (.agg #[.bool nv, .slice av lv cv]) (zs.getD p 0) k := by
  obtain ⟨at_, ps, h1, h2, h3, h4, h5⟩ := h
  have h1' : Value.slice aa la qa = at_ := by simp only [matv, Value.agg.injEq] at h1; simp at h1; exact h1
  subst h1'
  obtain ⟨a', c', e1, e2, e3, e4, e5⟩ := h2
  simp only [Value.slice.injEq] at e1
  obtain ⟨rfl, rfl, rfl⟩ := e1
  have hl : ps.length = r * c := by rw [h3.1, h4]
  rcases e5 with rfl | ⟨b, off, rfl, _, _, e9⟩
  · simp at hl; omega
  · have hq : ps[p]? = some (ps[p]'(by omega)) := List.getElem?_eq_getElem _
    have hz : zs[p]? = some (zs.getD p 0) := by simp [show p < zs.length by omega]
    have z := h3.2 p _ _ hq hz
    obtain ⟨n0, a0, l0, c0, e⟩ := z.isI
    have q := e9 p _ hq
    have e' : (ps[p]'(by omega)) = (.bool n0, .slice a0 l0 c0) := e
    rw [e'] at q z
    exact ⟨b, off, n0, a0, l0, c0, rfl, by omega, q.1, q.2, z⟩
theorem Mx.zl16 {w : World} {r c k la qa : Nat} {aa : Option Addr} {zs : List Int} (h : Mx w (matv r c (.slice aa la qa)) r c zs k) : Zl w (.slice aa la qa) zs k := by
  obtain ⟨at_, ps, h1, h2, h3, h4, h5⟩ := h
  have h1' : Value.slice aa la qa = at_ := by simp only [matv, Value.agg.injEq] at h1; simp at h1; exact h1
  subst h1'
  exact zl_of h2 h3
/-- One int. -/
theorem in9_one {w : World} {g x : Nat} (d : Cel w g 3 [.int .i64 (x : Int)]) : In9 w (.slice (some ⟨g, 0, none⟩) 1 1) (natv [x]) := by
  refine ⟨_, _, rfl, Nat.le_refl _, by simp [natv], .inr ⟨g, 0, rfl, d.blk, fun j h => ?_⟩⟩
  match j, h with
  | 0, _ => exact d.at (i := 0) rfl
/-- Two integers. -/
theorem zl_two {w : World} {g k : Nat} {n0 n1 : Bool} {a0 a1 : Option Addr} {l0 l1 c0 c1 : Nat} {z0 z1 : Int} (d : Cel w g 25 [.bool n0, .slice a0 l0 c0, .bool n1, .slice a1 l1 c1]) (h0 : Zi w (.agg #[.bool n0, .slice a0 l0 c0]) z0 k) (h1 : Zi w (.agg #[.bool n1, .slice a1 l1 c1]) z1 k) : Zl w (.slice (some ⟨g, 0, none⟩) 2 2) [z0, z1] k := by
  refine ⟨_, _, rfl, Nat.le_refl _, by simp, .inr ⟨g, 0, rfl, d.blk, fun j hj => ?_⟩⟩
  match j, hj with
  | 0, _ => exact ⟨_, _, d.at (i := 0) rfl, d.at (i := 1) rfl, h0⟩
  | 1, _ => exact ⟨_, _, d.at (i := 2) rfl, d.at (i := 3) rfl, h1⟩
/-- The coefficients with the first i parts taken off. -/
def wmS (M : List Int) (D : Nat → Int) (i : Nat) : List Int := (List.range M.length).map fun t => if t < i then M.getD t 0 - D t else M.getD t 0
theorem wmS_length {M : List Int} {D : Nat → Int} {i : Nat} : (wmS M D i).length = M.length := by simp [wmS]
theorem wmS_start {M : List Int} {D : Nat → Int} : wmS M D 0 = M := by
  apply List.ext_getElem
  · simp [wmS]
  · intro t h1 h2
    simp [wmS, h2]
theorem wmS_at {M : List Int} {D : Nat → Int} {i : Nat} (hi : i < M.length) : (wmS M D i).getD i 0 = M.getD i 0 := by simp [wmS, hi]
theorem wmS_step {M : List Int} {D : Nat → Int} {i : Nat} (hi : i < M.length) : wmS M D (i + 1) = (wmS M D i).set i (M.getD i 0 - D i) := by
  apply List.ext_getElem
  · simp [wmS]
  · intro t h1 h2
    have ht : t < M.length := by simpa [wmS] using h1
    by_cases h : t = i
    · subst h
      simp [wmS]
    · rw [List.getElem_set_ne (by omega)]
      simp only [wmS, List.getElem_map, List.getElem_range]
      by_cases q : t < i
      · rw [if_pos q, if_pos (by omega)]
      · rw [if_neg q, if_neg (by omega)]
/-- The part that the row, the matrix and the column make. -/
def wmD (n k : Nat) (A P : List Int) (t : Nat) : Int := dotv (tlS k (pickL n n A (List.range k) (List.range k)) (pickL n n A [k] (List.range k)) ((P.drop 1).drop t)) (pickL n n A (List.range k) [k])
/-- The next characteristic polynomial. -/
def womL (n k : Nat) (A P : List Int) : List Int := wmS (mulP P [-(A.getD (k * n + k) 0), 1]) (wmD n k A P) k
def WmH (wB : World) (k gm ga N : Nat) (M : List Int) (D : Nat → Int) (F : Nat → List Int) (km kk gk : Nat) (s : Value) (wx : World) : Prop :=
  ∃ i : Nat, s = .int .i64 (i : Int) ∧ i ≤ k ∧ gk = k - i ∧ AllZ wx gm (wmS M D i) km ∧ Pts wx ga k k 0 F kk N ∧ Below wB.heap.size wB wx ∧ FarA wB.heap.size wx gm
def WmL (wB wC : World) (pc k gm ga N : Nat) (ac : Option Addr) (qc : Nat) (M : List Int) (D : Nat → Int) (F : Nat → List Int) (km kk gk : Nat) (s : Value) (wx : World) : Prop :=
  Cel wx pc 39 [.int .i64 (k : Int), .int .i64 1, .slice ac k qc] ∧ WmH wB k gm ga N M D F km kk gk s wx
def Womed (w : World) (k : Nat) (zs : List Int) (kk : Nat) (e : Ending) (w' : World) : Prop := ∃ g, e = .returned (.slice (some ⟨g, 0, none⟩) (k + 2) (k + 2)) ∧ w.heap.size ≤ g ∧ AllZ w' g zs kk ∧ Below w.heap.size w w' ∧ FarA w.heap.size w' g
theorem sub_lt16 {x y : Int} {a b : Nat} (hx : (x.natAbs : Int) < pw a) (hy : (y.natAbs : Int) < pw b) (h : a ≤ b) : ((x - y).natAbs : Int) < pw (b + 1) := by
  have := sum_lt (x := x) (y := -y) (a := a) (b := b) (by omega) (by rw [Int.natAbs_neg]; exact hy) h
  rw [← Int.sub_eq_add_neg] at this
  exact this
theorem mulP_lt {P Q : List Int} {kp kq : Nat} (hp : ∀ z ∈ P, (z.natAbs : Int) < pw kp) (hq : ∀ z ∈ Q, (z.natAbs : Int) < pw kq) (hi : P.length ≤ 1048576) : ∀ z ∈ mulP P Q, (z.natAbs : Int) < pw (kp + kq + 1) := fun z hz => by
  unfold mulP coL at hz
  obtain ⟨s, -, rfl⟩ := List.mem_map.1 hz
  exact cfP_lt hp hq hi
set_option maxHeartbeats 12800000 in
set_option maxRecDepth 100000 in
theorem wom_any {w : World} {gp op cp cf : Nat} {af : Option Addr} {av : Value} {n k kp ka : Nat} {A P : List Int} (hP : Zl w (.slice (some ⟨gp, op, none⟩) (k + 1) cp) P kp) (hlast : P.getD k 0 = 1) (hA : Mx w av n n A ka) (hF : In9 w (.slice af k cf) (natv (List.range k))) (hkn : k < n) (hka : 1 ≤ ka) (hk : kp + 66 * (ka + 65) < 35184372088000) :
    Calls Try.prog 45 #[.slice (some ⟨gp, op, none⟩) (k + 1) cp, av, .slice af k cf] w (Womed w k (womL n k A P) (kp + 66 * (ka + 65))) := by
  have MA := hid hA
  have PP := hid hP
  have IF := hid hF
  obtain ⟨aa, ca, rfl, hn64, -⟩ := hA.form
  have LP : Hid (P.length = k + 1) := by obtain ⟨_, _, e, _⟩ := hP.form9; simp only [Value.slice.injEq] at e; exact e.2.1.symm
  have HL := hid hlast
  have HK := hid hk
  have HKA := hid hka
  have HB1 : Hid (∀ i ∈ List.range k, i < n) := fun i hi => by have := List.mem_range.1 hi; omega
  have HB2 : Hid (∀ i ∈ [k], i < n) := fun i hi => by simp at hi; omega
  have HLR : Hid ((List.range k).length = k) := List.length_range
  have EP : Hid (P.take (sgl P) = P ∧ sgl P = k + 1) := by
    have e : sgl P = k + 1 := sgl_last LP.out (by rw [HL.out]; decide)
    exact ⟨by rw [e]; exact List.take_of_length_le (by rw [LP.out]; exact Nat.le_refl _), e⟩
  obtain ⟨la, hla⟩ : ∃ la, n * n = la := ⟨_, rfl⟩
  rw [hla] at MA ⊢
  have ELA := hid hla
  obtain ⟨W0, hV⟩ : ∃ W0, w.alloc (.cells #[.int .i64 (n : Int), .int .i64 (n : Int), .slice aa la ca] 39) = W0 := ⟨_, rfl⟩
  obtain ⟨b, sz0⟩ := alo1 w (.cells #[.int .i64 (n : Int), .int .i64 (n : Int), .slice aa la ca] 39)
  rw [hV] at b sz0
  have PA : Hid (Cel W0 w.heap.size 39 [.int .i64 (n : Int), .int .i64 (n : Int), .slice aa la ca]) := by unfold Hid; rw [← hV]; exact Cel.new w _ _
  replace MA := hid (MA.out.now b)
  replace PP := hid (PP.out.now b)
  replace IF := hid (IF.out.now b)
  have G := hid b
  clear b sz0 hP hA hF hlast hk hka hla
  have cA0 := PA.out.at (i := 0) rfl
  have cA1 := PA.out.at (i := 1) rfl
  have cA2 := PA.out.at (i := 2) rfl
  rw [← hV] at cA0 cA1 cA2
  have EV := hid hV
  clear hV
  go_enter Try.func45, Try.ntmps45
  go_wp2_with fail
  rw [EV.out]
  clear EV cA0 cA1 cA2
  have HC := hid (pick_yes MA.out IF.out IF.out HB1.out HB1.out (by first | (simp; done) | (simp; omega)) (by first | (simp; done) | (simp; omega)))
  simp only [HLR.out, List.length_cons, List.length_nil, Nat.zero_add] at HC
  refine (HC.out).mono ?_
  rintro e w1 ⟨v, rfl, m, b⟩
  replace PA := hid (PA.out.step b)
  replace MA := hid (MA.out.now b)
  replace PP := hid (PP.out.now b)
  replace IF := hid (IF.out.now b)
  replace G := hid (below_step G.out b)
  obtain ⟨ai, qi, rfl, -, -⟩ := m.mx.form
  have Mi := hid m.mx
  clear m HC
  obtain ⟨li, hli⟩ : ∃ li, k * k = li := ⟨_, rfl⟩
  rw [hli] at Mi ⊢
  have ELi := hid hli
  clear hli
  clear b
  obtain ⟨V2, hV1⟩ : ∃ V2, w1.alloc (.cells #[.int .i64 (k : Int), .int .i64 (k : Int), .slice ai li qi] 39) = V2 := ⟨_, rfl⟩
  obtain ⟨b, sz1⟩ := alo1 w1 (.cells #[.int .i64 (k : Int), .int .i64 (k : Int), .slice ai li qi] 39)
  rw [hV1] at b sz1
  replace PA := hid (PA.out.step b)
  replace MA := hid (MA.out.now b)
  replace PP := hid (PP.out.now b)
  replace IF := hid (IF.out.now b)
  replace Mi := hid (Mi.out.now b)
  replace G := hid (below_step G.out b)
  clear b
  have PI : Hid (Cel V2 w1.heap.size 39 [.int .i64 (k : Int), .int .i64 (k : Int), .slice ai li qi]) := by unfold Hid; rw [← hV1]; exact Cel.new w1 _ _
  have cA0 := PA.out.at (i := 0) rfl
  have cA1 := PA.out.at (i := 1) rfl
  have cA2 := PA.out.at (i := 2) rfl
  rw [← hV1] at cA0 cA1 cA2
  obtain ⟨V3, hV2⟩ : ∃ V3, V2.alloc (.cells #[.int .i64 (k : Int)] 3) = V3 := ⟨_, rfl⟩
  obtain ⟨b, sz2⟩ := alo1 V2 (.cells #[.int .i64 (k : Int)] 3)
  rw [hV2] at b sz2
  replace PA := hid (PA.out.step b)
  replace MA := hid (MA.out.now b)
  replace PP := hid (PP.out.now b)
  replace IF := hid (IF.out.now b)
  replace Mi := hid (Mi.out.now b)
  replace PI := hid (PI.out.step b)
  replace G := hid (below_step G.out b)
  have I1 : Hid (In9 V3 (.slice (some ⟨w1.heap.size + 1, 0, none⟩) 1 1) (natv [k])) := by
    unfold Hid
    have := in9_one (x := k) (show Cel V3 V2.heap.size 3 [.int .i64 (k : Int)] by rw [← hV2]; exact Cel.new V2 _ _)
    rw [sz1] at this
    exact this
  have EV : Hid ((w1.alloc (.cells #[.int .i64 (k : Int), .int .i64 (k : Int), .slice ai li qi] 39)).alloc (.cells #[.int .i64 (k : Int)] 3) = V3) := by unfold Hid; rw [hV1, hV2]
  clear b sz1 sz2 hV1 hV2
  go_wp2_with fail
  rw [EV.out]
  clear EV cA0 cA1 cA2
  have HC := hid (pick_yes MA.out I1.out IF.out HB2.out HB1.out (by first | (simp; done) | (simp; omega)) (by first | (simp; done) | (simp; omega)))
  simp only [HLR.out, List.length_cons, List.length_nil, Nat.zero_add] at HC
  refine (HC.out).mono ?_
  rintro e w4 ⟨v, rfl, m, b⟩
  replace PA := hid (PA.out.step b)
  replace MA := hid (MA.out.now b)
  replace PP := hid (PP.out.now b)
  replace IF := hid (IF.out.now b)
  replace Mi := hid (Mi.out.now b)
  replace PI := hid (PI.out.step b)
  replace I1 := hid (I1.out.now b)
  replace G := hid (below_step G.out b)
  obtain ⟨ar, qr, rfl, -, -⟩ := m.mx.form
  have Mr := hid m.mx
  clear m HC
  obtain ⟨lr, hlr⟩ : ∃ lr, 1 * k = lr := ⟨_, rfl⟩
  rw [hlr] at Mr ⊢
  have ELr := hid hlr
  clear hlr
  clear b
  clear I1
  obtain ⟨V5, hV1⟩ : ∃ V5, w4.alloc (.cells #[.int .i64 1, .int .i64 (k : Int), .slice ar lr qr] 39) = V5 := ⟨_, rfl⟩
  obtain ⟨b, sz1⟩ := alo1 w4 (.cells #[.int .i64 1, .int .i64 (k : Int), .slice ar lr qr] 39)
  rw [hV1] at b sz1
  replace PA := hid (PA.out.step b)
  replace MA := hid (MA.out.now b)
  replace PP := hid (PP.out.now b)
  replace IF := hid (IF.out.now b)
  replace Mi := hid (Mi.out.now b)
  replace PI := hid (PI.out.step b)
  replace Mr := hid (Mr.out.now b)
  replace G := hid (below_step G.out b)
  clear b
  have PR : Hid (Cel V5 w4.heap.size 39 [.int .i64 1, .int .i64 (k : Int), .slice ar lr qr]) := by unfold Hid; rw [← hV1]; exact Cel.new w4 _ _
  have cA0 := PA.out.at (i := 0) rfl
  have cA1 := PA.out.at (i := 1) rfl
  have cA2 := PA.out.at (i := 2) rfl
  rw [← hV1] at cA0 cA1 cA2
  obtain ⟨V6, hV2⟩ : ∃ V6, V5.alloc (.cells #[.int .i64 (k : Int)] 3) = V6 := ⟨_, rfl⟩
  obtain ⟨b, sz2⟩ := alo1 V5 (.cells #[.int .i64 (k : Int)] 3)
  rw [hV2] at b sz2
  replace PA := hid (PA.out.step b)
  replace MA := hid (MA.out.now b)
  replace PP := hid (PP.out.now b)
  replace IF := hid (IF.out.now b)
  replace Mi := hid (Mi.out.now b)
  replace PI := hid (PI.out.step b)
  replace Mr := hid (Mr.out.now b)
  replace PR := hid (PR.out.step b)
  replace G := hid (below_step G.out b)
  have I2 : Hid (In9 V6 (.slice (some ⟨w4.heap.size + 1, 0, none⟩) 1 1) (natv [k])) := by
    unfold Hid
    have := in9_one (x := k) (show Cel V6 V5.heap.size 3 [.int .i64 (k : Int)] by rw [← hV2]; exact Cel.new V5 _ _)
    rw [sz1] at this
    exact this
  have EV : Hid ((w4.alloc (.cells #[.int .i64 1, .int .i64 (k : Int), .slice ar lr qr] 39)).alloc (.cells #[.int .i64 (k : Int)] 3) = V6) := by unfold Hid; rw [hV1, hV2]
  clear b sz1 sz2 hV1 hV2
  go_wp2_with fail
  rw [EV.out]
  clear EV cA0 cA1 cA2
  have HC := hid (pick_yes MA.out IF.out I2.out HB1.out HB2.out (by first | (simp; done) | (simp; omega)) (by first | (simp; done) | (simp; omega)))
  simp only [HLR.out, List.length_cons, List.length_nil, Nat.zero_add] at HC
  refine (HC.out).mono ?_
  rintro e w7 ⟨v, rfl, m, b⟩
  replace PA := hid (PA.out.step b)
  replace MA := hid (MA.out.now b)
  replace PP := hid (PP.out.now b)
  replace IF := hid (IF.out.now b)
  replace Mi := hid (Mi.out.now b)
  replace PI := hid (PI.out.step b)
  replace Mr := hid (Mr.out.now b)
  replace PR := hid (PR.out.step b)
  replace I2 := hid (I2.out.now b)
  replace G := hid (below_step G.out b)
  obtain ⟨ac, qc, rfl, -, -⟩ := m.mx.form
  have Mc := hid m.mx
  clear m HC
  obtain ⟨lc, hlc⟩ : ∃ lc, k * 1 = lc := ⟨_, rfl⟩
  rw [hlc] at Mc ⊢
  have ELc := hid hlc
  clear hlc
  clear b
  clear I2
  clear IF
  obtain ⟨V8, hV⟩ : ∃ V8, w7.alloc (.cells #[.int .i64 ((k : Int)), .int .i64 (1), .slice ac lc qc] 39) = V8 := ⟨_, rfl⟩
  obtain ⟨b, sz8⟩ := alo1 w7 (.cells #[.int .i64 ((k : Int)), .int .i64 (1), .slice ac lc qc] 39)
  rw [hV] at b sz8
  replace PA := hid (PA.out.step b)
  replace MA := hid (MA.out.now b)
  replace PP := hid (PP.out.now b)
  replace Mi := hid (Mi.out.now b)
  replace PI := hid (PI.out.step b)
  replace Mr := hid (Mr.out.now b)
  replace PR := hid (PR.out.step b)
  replace Mc := hid (Mc.out.now b)
  replace G := hid (below_step G.out b)
  clear b sz8
  have PC : Hid (Cel V8 w7.heap.size 39 [.int .i64 ((k : Int)), .int .i64 (1), .slice ac lc qc]) := by unfold Hid; rw [← hV]; exact Cel.new w7 _ _
  have hpl : k * n + k < n * n := by
    have h2 := Nat.mul_le_mul_right n (show k + 1 ≤ n from hkn)
    rw [Nat.succ_mul] at h2
    omega
  have hwm : IntKind.i64.wrap ((k : Int) * (n : Int)) = ((k * n : Nat) : Int) := wrapM9 (by omega) hn64
  obtain ⟨kn, hkn2⟩ : ∃ kn, k * n = kn := ⟨_, rfl⟩
  have hkn3 : kn ≤ 4096 := by have := Nat.mul_le_mul (show k ≤ 64 by omega) hn64; omega
  rw [hkn2] at hwm hpl
  have EKN := hid hkn2
  obtain ⟨pp, hpp⟩ : ∃ pp, kn + k = pp := ⟨_, rfl⟩
  have hwp : IntKind.i64.wrap ((kn : Int) + (k : Int)) = (pp : Int) := by rw [wrap_is] <;> omega
  rw [hpp] at hpl
  obtain ⟨ba, off, nx, ax, lx, cx, haa, hpla, x0, x1, zx⟩ := MA.out.ent16 hpl
  have hpli : (pp : Int) < (la : Int) := by omega
  subst haa
  have ZX : Hid (Zi V8 (.agg #[.bool nx, .slice ax lx cx]) (A.getD (k * n + k) 0) ka) := by
    unfold Hid
    rw [EKN.out, hpp]
    exact zx
  rw [← hV] at x0 x1
  clear zx hpp hkn2 hpl
  have cA0 := PA.out.at (i := 0) rfl
  have cA1 := PA.out.at (i := 1) rfl
  have cA2 := PA.out.at (i := 2) rfl
  rw [← hV] at cA0 cA1 cA2
  have EV : Hid (w7.alloc (.cells #[.int .i64 ((k : Int)), .int .i64 (1), .slice ac lc qc] 39) = V8) := hV
  clear hV
  go_wp2_with fail
  rw [EV.out]
  clear EV
  clear cA0 cA1 cA2
  clear x0 x1 hwm hwp hpli hpla
  refine (neg_z ZX.out).mono ?_
  rintro e w9 ⟨rz, rfl, m, b⟩
  replace PA := hid (PA.out.step b)
  replace MA := hid (MA.out.now b)
  replace PP := hid (PP.out.now b)
  replace Mi := hid (Mi.out.now b)
  replace PI := hid (PI.out.step b)
  replace Mr := hid (Mr.out.now b)
  replace PR := hid (PR.out.step b)
  replace Mc := hid (Mc.out.now b)
  replace PC := hid (PC.out.step b)
  replace ZX := hid (ZX.out.now b)
  replace G := hid (below_step G.out b)
  obtain ⟨nn, xn, an, cn, rfl⟩ := m.parts
  obtain ⟨ln, hln⟩ : ∃ ln, xn.length = ln := ⟨_, rfl⟩
  rw [hln] at m ⊢
  have Zn := hid m.zi
  clear m hln
  clear b
  clear ZX
  go_wp2_with fail
  refine (of_z (by decide) (by decide) _).mono ?_
  rintro e w10 ⟨rz, rfl, m, b⟩
  replace PA := hid (PA.out.step b)
  replace MA := hid (MA.out.now b)
  replace PP := hid (PP.out.now b)
  replace Mi := hid (Mi.out.now b)
  replace PI := hid (PI.out.step b)
  replace Mr := hid (Mr.out.now b)
  replace PR := hid (PR.out.step b)
  replace Mc := hid (Mc.out.now b)
  replace PC := hid (PC.out.step b)
  replace Zn := hid (Zn.out.now b)
  replace G := hid (below_step G.out b)
  obtain ⟨no, xo, ao, co, rfl⟩ := m.parts
  obtain ⟨lo, hlo⟩ : ∃ lo, xo.length = lo := ⟨_, rfl⟩
  rw [hlo] at m ⊢
  have Zo := hid m.zi
  clear m hlo
  clear b
  obtain ⟨V11, hV⟩ : ∃ V11, w10.alloc (.cells #[.bool nn, .slice an ln cn, .bool no, .slice ao lo co] 25) = V11 := ⟨_, rfl⟩
  obtain ⟨b, sz11⟩ := alo1 w10 (.cells #[.bool nn, .slice an ln cn, .bool no, .slice ao lo co] 25)
  rw [hV] at b sz11
  replace PA := hid (PA.out.step b)
  replace MA := hid (MA.out.now b)
  replace PP := hid (PP.out.now b)
  replace Mi := hid (Mi.out.now b)
  replace PI := hid (PI.out.step b)
  replace Mr := hid (Mr.out.now b)
  replace PR := hid (PR.out.step b)
  replace Mc := hid (Mc.out.now b)
  replace PC := hid (PC.out.step b)
  replace Zn := hid (Zn.out.now b)
  replace Zo := hid (Zo.out.now b)
  replace G := hid (below_step G.out b)
  clear b sz11
  have ZQ : Hid (Zl V11 (.slice (some ⟨w10.heap.size, 0, none⟩) 2 2) [-(A.getD (k * n + k) 0), 1] (ka + 1)) := zl_two (show Cel V11 w10.heap.size 25 [.bool nn, .slice an ln cn, .bool no, .slice ao lo co] by rw [← hV]; exact Cel.new w10 _ _) (Zn.out.more (by omega)) (Zo.out.more (by omega))
  clear Zn
  clear Zo
  have EV : Hid (w10.alloc (.cells #[.bool nn, .slice an ln cn, .bool no, .slice ao lo co] 25) = V11) := hV
  clear hV
  go_wp2_with fail
  rw [EV.out]
  clear EV
  have EQ : Hid (([-(A.getD (k * n + k) 0), 1] : List Int).take (sgl [-(A.getD (k * n + k) 0), 1]) = [-(A.getD (k * n + k) 0), 1] ∧ sgl [-(A.getD (k * n + k) 0), 1] = 2) := by
    have e : sgl [-(A.getD (k * n + k) 0), 1] = 2 := sgl_last (n := 1) rfl (by simp)
    exact ⟨by rw [e]; rfl, e⟩
  have HML := hid (mulP_lt (zl_lt PP.out) (zl_lt ZQ.out) (by rw [LP.out]; omega))
  have HM := hid (pmul_any PP.out ZQ.out (by have := HK.out; omega) (by rw [EP.out.2, EQ.out.2]; omega))
  rw [EP.out.1, EQ.out.1] at HM
  have LM : Hid ((mulP P [-(A.getD (k * n + k) 0), 1]).length = k + 2) := by unfold Hid; rw [mulP_length, LP.out]; simp
  have GW := hid G.out
  have HWG0 := hid G.out.size
  have PC0 := hid PC.out
  have ZC0 := hid Mc.out.zl16
  obtain ⟨M, hMM⟩ : ∃ M, mulP P [-(A.getD (k * n + k) 0), 1] = M := ⟨_, rfl⟩
  rw [hMM] at LM HML
  have EMM := hid hMM
  clear hMM EQ
  clear ZQ
  refine (HM.out).mono ?_
  rintro e w12 hmu
  rcases hmu with ⟨hno, -⟩ | ⟨-, -, gm, rfl, hgm, hzm, b, hfa⟩
  · exfalso
    rcases hno with h | h
    · have := LP.out; rw [h] at this; simp at this
    · cases h
  replace PA := hid (PA.out.step b)
  replace MA := hid (MA.out.now b)
  replace PP := hid (PP.out.now b)
  replace Mi := hid (Mi.out.now b)
  replace PI := hid (PI.out.step b)
  replace Mr := hid (Mr.out.now b)
  replace PR := hid (PR.out.step b)
  replace Mc := hid (Mc.out.now b)
  replace PC := hid (PC.out.step b)
  replace G := hid (below_step G.out b)
  rw [EMM.out] at hzm ⊢
  rw [LM.out]
  obtain ⟨L2, hL2⟩ : ∃ L2, k + 2 = L2 := ⟨_, rfl⟩
  rw [hL2]
  have EL2 := hid hL2
  have AZ := hid hzm
  have HGM := hid hgm
  have HWG := hid (Nat.le_trans HWG0.out hgm)
  have HPG : Hid (gm ≠ w7.heap.size) := fun e => by have := PC0.out.blk; subst e; exact absurd this (Nat.not_lt.2 hgm)
  have BB := hid b
  have FA := hid hfa
  clear hzm hgm b HM hL2 hfa
  have cR2 := PR.out.at (i := 2) rfl
  have cI0 := PI.out.at (i := 0) rfl
  have cI1 := PI.out.at (i := 1) rfl
  have cI2 := PI.out.at (i := 2) rfl
  go_wp2_with fail
  clear cR2 cI0 cI1 cI2
  have hlr : lr = k := by have := ELr.out; omega
  subst hlr
  have hlc : lc = lr := by have := ELc.out; omega
  subst hlc
  have HJ := hid (adj_any (d := lc) Mr.out.zl16 PP.out Mi.out (by omega) (by have := HK.out; have h2 : lc * (ka + lc + 1) ≤ 64 * (ka + 65) := Nat.mul_le_mul (by omega) (by omega); omega))
  have hkk2 : lc * (ka + lc + 1) ≤ 64 * (ka + 65) := Nat.mul_le_mul (by omega) (by omega)
  have HGB := hid AZ.out.blk
  refine (HJ.out).mono ?_
  rintro e w13 ⟨ga, N, rfl, hga, hpt, b⟩
  replace PA := hid (PA.out.step b)
  replace MA := hid (MA.out.now b)
  replace PP := hid (PP.out.now b)
  replace Mi := hid (Mi.out.now b)
  replace PI := hid (PI.out.step b)
  replace Mr := hid (Mr.out.now b)
  replace PR := hid (PR.out.step b)
  replace Mc := hid (Mc.out.now b)
  replace PC := hid (PC.out.step b)
  replace AZ := hid (AZ.out.step b)
  replace FA := hid (FA.out.step b)
  replace G := hid (below_step G.out b)
  have PT := hid hpt
  have HGA := hid hga
  replace BB := hid (below_step BB.out b)
  clear hpt hga HJ
  clear b
  have KKE : Hid (kp + ka + lc * (ka + lc + 1) + ka + lc < kp + 66 * (ka + 65)) := by unfold Hid; omega
  obtain ⟨kt, hkt⟩ : ∃ kt, kp + ka + lc * (ka + lc + 1) = kt := ⟨_, rfl⟩
  rw [hkt] at PT
  have EKT := hid hkt
  obtain ⟨KF, hKF⟩ : ∃ KF, kp + 66 * (ka + 65) = KF := ⟨_, rfl⟩
  have EKF := hid hKF
  have HGMA : Hid (gm < ga) := Nat.lt_of_lt_of_le HGB.out HGA.out
  have ZC := hid Mc.out.zl16
  have LC : Hid ((pickL n n A (List.range lc) [lc]).length = lc) := by obtain ⟨_, _, e, _⟩ := Mc.out.zl16.form9; simp only [Value.slice.injEq] at e; exact e.2.1.symm
  generalize hD : wmD n lc A P = D
  have ED : Hid (∀ t, D t = dotv (tlS lc (pickL n n A (List.range lc) (List.range lc)) (pickL n n A [lc] (List.range lc)) ((P.drop 1).drop t)) (pickL n n A (List.range lc) [lc])) := fun t => by rw [← hD]; rfl
  have EWM : Hid (womL n lc A P = wmS M D lc) := by unfold Hid womL; rw [EMM.out, hD]
  have PTL : Hid (∀ t, (tlS lc (pickL n n A (List.range lc) (List.range lc)) (pickL n n A [lc] (List.range lc)) ((P.drop 1).drop t)).length = lc) := fun t => tlS_length _
  generalize hFF : (fun j => tlS lc (pickL n n A (List.range lc) (List.range lc)) (pickL n n A [lc] (List.range lc)) ((P.drop 1).drop j)) = FF at PT
  have EFF : Hid (∀ t, FF t = tlS lc (pickL n n A (List.range lc) (List.range lc)) (pickL n n A [lc] (List.range lc)) ((P.drop 1).drop t)) := fun t => by rw [← hFF]
  generalize hCC : pickL n n A (List.range lc) [lc] = CC at *
  have H0 : Hid (WmL V11 w13 w7.heap.size lc gm ga N ac qc M D FF KF kt lc (.int .i64 0) w13) := ⟨PC.out, 0, rfl, Nat.zero_le _, by omega, by
    rw [wmS_start]
    exact AZ.out.more (by have := EKF.out; have := HK.out; omega), PT.out, BB.out, FA.out⟩
  have ZCB : Hid (Cel w13 w7.heap.size 39 [.int .i64 (lc : Int), .int .i64 1, .slice ac lc qc]) := PC.out
  clear hkt hKF hD hFF hCC hkk2
  go_wp2_with fail
  go_loopg [65] lc (fun gk s65 wx => WmL V11 w13 w7.heap.size lc gm ga N ac qc M D FF KF kt gk s65 wx)
  case atStart => exact H0.out
  case round =>
    clear H0 AZ PT BB FA
    obtain ⟨hpc, i, rfl, hin, hg, haz, hpt, hB, hfa⟩ := hrel
    have FA := hid hfa
    have PC1 := hid hpc
    have AZ := hid haz
    have PT := hid hpt
    have BB := hid hB
    have HG := hid hg
    clear hpc haz hpt hB hg hfa
    by_cases hlt : i < lc
    · have hlt' : (i : Int) < (lc : Int) := by omega
      obtain ⟨gq, p0, hzq⟩ := PT.out.part (j := i) (Nat.zero_le _) hlt
      have hwi := wrapI9 (i := i) (by omega)
      have LF : Hid ((FF i).length = lc) := by unfold Hid; rw [EFF.out]; exact PTL.out i
      have HDT := hid (dot_any (hzq.zl (by rw [LF.out]; omega) LF.out) (ZC0.out.now BB.out) (by rw [LF.out]; exact LC.out) (by rw [LF.out]; have := KKE.out; have := EKT.out; have := HK.out; omega))
      have EDT : Hid (dotv (FF i) CC = D i) := by unfold Hid; rw [ED.out, EFF.out]
      rw [EDT.out, LF.out] at HDT
      have cC2 := PC1.out.at (i := 2) rfl
      have HMM : Hid (lc - (i + 1) < gk) := by unfold Hid; rw [HG.out]; omega
      clear hzq HG EDT
      go_wp2_with fail
      clear p0 cC2
      refine HDT.out.mono ?_
      rintro e w80 ⟨rz, rfl, m, b⟩
      obtain ⟨nd, xd, ad, cd, rfl⟩ := m.parts
      obtain ⟨ld, hld⟩ : ∃ ld, xd.length = ld := ⟨_, rfl⟩
      rw [hld] at m ⊢
      have ZD := hid m.zi
      replace AZ := hid (AZ.out.step b)
      replace FA := hid (FA.out.step b)
      replace PT := hid (PT.out.step b)
      replace BB := hid (below_step BB.out b)
      replace PC1 := hid (PC1.out.step b)
      clear m b hld HDT
      obtain ⟨V2, hV⟩ : ∃ V2, w80.alloc (duo (.bool nd) (.slice ad ld cd)) = V2 := ⟨_, rfl⟩
      obtain ⟨b, szv⟩ := alo1 w80 (duo (.bool nd) (.slice ad ld cd))
      rw [hV] at b szv
      have D9 : Hid (Duo V2 w80.heap.size (.bool nd) (.slice ad ld cd)) := by unfold Hid; rw [← hV]; exact Duo.new w80 _ _
      replace AZ := hid (AZ.out.step b)
      replace FA := hid (FA.out.step b)
      replace PT := hid (PT.out.step b)
      replace BB := hid (below_step BB.out b)
      replace PC1 := hid (PC1.out.step b)
      replace ZD := hid (ZD.out.now b)
      have EV := hid hV
      clear b szv hV
      go_upto_region 10 with fail
      rw [EV.out]
      clear EV
      have hiM : i < M.length := by rw [LM.out]; omega
      obtain ⟨nx2, xx2, adx, qx, c0, c1, -, -, zx⟩ := AZ.out.at (i := i) (by rw [wmS_length]; exact hiM)
      rw [wmS_at hiM] at zx
      obtain ⟨lx2, hlx⟩ : ∃ lx2, xx2.length = lx2 := ⟨_, rfl⟩
      rw [hlx] at c1 zx
      have ZX := hid zx
      have hil : (i : Int) < (L2 : Int) := by have := EL2.out; omega
      clear zx hlx
      have d90 := D9.out.c0
      have d91 := D9.out.c1
      generalize w80.heap.size = b9 at *
      have KB : Hid (∀ w', Below V2.heap.size V2 w' → w'.cell? ⟨gm, i * 2, none⟩ = some (.bool nx2) ∧ w'.cell? ⟨gm, i * 2 + 1, none⟩ = some (.slice adx lx2 qx) ∧ w'.cell? ⟨b9, 0, none⟩ = some (.bool nd) ∧ w'.cell? ⟨b9, 1, none⟩ = some (.slice ad ld cd)) := fun w' h => ⟨cnow h c0, cnow h c1, cnow h d90, cnow h d91⟩
      refine wp_region_tail (fun w' => w'.cell? ⟨gm, i * 2, none⟩ = some (.bool nx2) ∧ w'.cell? ⟨gm, i * 2 + 1, none⟩ = some (.slice adx lx2 qx) ∧ w'.cell? ⟨b9, 0, none⟩ = some (.bool nd) ∧ w'.cell? ⟨b9, 1, none⟩ = some (.slice ad ld cd)) 9 (by kernel_rfl) ?_
      obtain ⟨D91, hD⟩ : ∃ D91, V2.drew = D91 := ⟨_, rfl⟩
      have GB : Hid (Below V2.heap.size V2 D91) := by unfold Hid; rw [← hD]; exact (Below.refl _ _).drew
      rw [hD]
      clear hD
      refine wpAnyT_list [(0, (.slice (some ⟨gm, 0, none⟩) L2 L2)), (1, (.int .i64 (i : Int))), (2, (.slice (some ⟨gm, 0, none⟩) L2 L2)), (3, (.int .i64 (i : Int))), (4, (.pointer (some ⟨gm, i * 2, none⟩))), (5, (.agg #[.bool nx2, .slice adx lx2 qx])), (6, (.agg #[.bool nd, .slice ad ld cd]))] 7 ?_ (KB.out _ GB.out) ?_
      · simp only [TakesV, gA9, g09, g19, Act.put, sI9, s09, s19]
        (repeat' (first | exact trivial | refine And.intro (Or.inl ⟨by rfl, ?_⟩) ?_)) <;> (intro w hSw; (try dsimp only at hSw); go_simp)
      simp only [actV, gA9, g09, g19, Act.put, sI9, s09, s19]
      refine wpAnyT_one (i := 7) (o := { dst := some 84, op := Op.call { callee := Callee.value (Operand.func 38), args := #[Operand.tmp 82, Operand.tmp 83], argTypes := #[25, 25] }, type := 25, pos := "char.go:30", after := #[{ on := 5, ground := Ground.data }, { on := 6, ground := Ground.data }], guard := none }) (by kernel_rfl) rfl (fun K hK => ?_)
      have lzg : Hid (V2.heap.size ≤ D91.heap.size) := GB.out.size
      go_simp
      go_at_call 38
      refine (sub_z (ZX.out.zi.now GB.out) (ZD.out.now GB.out) (by have := EKF.out; have := HK.out; omega) (by have := EKT.out; have := KKE.out; have := HK.out; omega)).mono ?_
      rintro e w92 ⟨r1, rfl, m1, b⟩
      have lz92 := (show Below _ _ _ from b).size
      replace GB := hid (below_step GB.out b)
      have AZ1 := hid (AZ.out.step GB.out)
      have PT1 := hid (PT.out.step GB.out)
      have B1 := hid (below_step BB.out GB.out)
      have PC2 := hid (PC1.out.step GB.out)
      have FA1 := hid (FA.out.step GB.out)
      have M0x := hid m1.zc
      have MF := hid (m1.mono (Nat.le_trans BB.out.size lzg.out))
      obtain ⟨ns, xs, as1, cs1, rfl⟩ := m1.parts
      have FP1 := hid MF.out.farP
      have M1 : Hid (Zc w92 (.agg #[.bool ns, .slice as1 xs.length cs1]) (M.getD i 0 - D i) KF) := Zc.fit16 M0x.out (by
        have e : kt + ka + lc + 1 ≤ KF := by have := KKE.out; have := EKT.out; have := EKF.out; omega
        exact Int.lt_of_lt_of_le (sub_lt16 (lt_getD HML.out i) ZD.out.lt (by have := EKT.out; have h3 := Nat.mul_le_mul (show 1 ≤ lc by omega) (show ka + 2 ≤ ka + lc + 1 by omega); omega)) (pw_up e))
      obtain ⟨ls, hls⟩ : ∃ ls, xs.length = ls := ⟨_, rfl⟩
      rw [hls] at M1 FP1 ⊢
      clear m1 M0x hls MF
      clear b
      refine hK.out _ _ (fun _ => KB.out _ GB.out) ?_
      clear hK
      refine wpAnyT_list [(8, (.pointer (some ⟨gm, i * 2, none⟩)))] 1 ?_ (KB.out _ GB.out) ?_
      · simp only [TakesV, gA9, g09, g19, Act.put, sI9, s09, s19]
        (repeat' (first | exact trivial | refine And.intro (Or.inl ⟨by rfl, ?_⟩) ?_)) <;> (intro w hSw; (try dsimp only at hSw); go_simp)
      simp only [actV, gA9, g09, g19, Act.put, sI9, s09, s19]
      refine wpAnyT_one (i := 9) (o := { dst := none, op := Op.store 25 (Operand.tmp 85) (Operand.tmp 84), type := 0, pos := "char.go:30", after := #[{ on := 8, ground := Ground.data }, { on := 7, ground := Ground.data }, { on := 7, ground := Ground.chain }, { on := 0, ground := Ground.phase }, { on := 1, ground := Ground.phase }, { on := 2, ground := Ground.phase }, { on := 3, ground := Ground.phase }, { on := 4, ground := Ground.phase }, { on := 5, ground := Ground.phase }, { on := 6, ground := Ground.phase }, { on := 7, ground := Ground.phase }], guard := none }) (by kernel_rfl) rfl (fun K hK => ?_)
      obtain ⟨ny, xy, ady, qy, e0, e1, e2, e3, -⟩ := AZ1.out.at (i := i) (by rw [wmS_length]; exact hiM)
      go_simp
      clear e0 e1 e2 e3
      obtain ⟨V93, hW⟩ : ∃ V93, ((w92.setCell ⟨gm, i * 2, none⟩ (.bool ns)).setCell ⟨gm, i * 2 + 1, none⟩ (.slice as1 ls cs1)) = V93 := ⟨_, rfl⟩
      have HN1 : Hid (WmL V11 w13 w7.heap.size lc gm ga N ac qc M D FF KF kt (lc - (i + 1)) (.int .i64 ((i + 1 : Nat) : Int)) V93) := by
        unfold Hid
        rw [← hW]
        refine ⟨(PC2.out.ne HPG.out).ne HPG.out, i + 1, rfl, by omega, rfl, ?_, PT1.out.off AZ1.out (by rw [wmS_length]; exact hiM) (.inr HGMA.out) (by have := HGMA.out; omega) _ _, bset (bset B1.out HGM.out) HGM.out, FA1.out.put AZ1.out (by rw [wmS_length]; exact hiM) M1.out.zi.isI FP1.out⟩
        rw [wmS_step hiM]
        exact AZ1.out.put (by rw [wmS_length]; exact hiM) M1.out
      rw [hW]
      clear hW
      refine hK.out _ _ (fun h => absurd h (by decide)) ?_
      clear hK
      try simp only [Act.put]
      refine wpAnyT_done (by kernel_rfl) ?_ _
      clear AZ PT BB AZ1 PT1 B1 M1 GB KB ZD ZX PC1 PC2 FA FA1 FP1
      go_wp2_with fail
      go_roundg (lc - (i + 1))
      case rel => exact HN1.out
      case measure => exact HMM.out
    · have hlt' : ¬ (i : Int) < (lc : Int) := by omega
      obtain rfl : i = lc := by omega
      have FIN : Hid (Womed w i (womL n i A P) (kp + 66 * (ka + 65)) (.returned (.slice (some ⟨gm, 0, none⟩) L2 L2)) wr) := ⟨gm, by rw [← EL2.out], HWG.out, by rw [EWM.out, EKF.out]; exact AZ.out, below_step GW.out BB.out, FA.out.mono HWG0.out⟩
      clear AZ PT BB HG PC1 FA
      go_wp2
      go_ret
      exact FIN.out
end Go.Proofs.Ytnpcfohimlfbdaa
