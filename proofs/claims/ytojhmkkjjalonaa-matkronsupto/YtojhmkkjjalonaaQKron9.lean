/-
  Kron9: Kron.
-/
import Derived.Test.YtojhmkkjjalonaaQKronG9
namespace Go.Proofs.Ytojhmkkjjalonaa
open Go.RowKit
set_option linter.unusedVariables false

theorem scaleL_length {K9 : Int} {zs : List Int} : (scaleL K9 zs).length = zs.length := by simp [scaleL]
/-- One row of the product. -/
def krow (x y : List Int) : List Int := (x.map fun t => scaleL t y).flatten
theorem flat_len {c : Nat} : ∀ L : List (List Int), (∀ x ∈ L, x.length = c) → L.flatten.length = L.length * c
  | [], _ => by simp
  | a :: t, hL => by rw [List.flatten_cons, List.length_append, flat_len t (fun x hx => hL x (by simp [hx])), hL a (by simp), List.length_cons, Nat.add_mul, Nat.one_mul, Nat.add_comm]
theorem krow_length {x y : List Int} : (krow x y).length = x.length * y.length := by
  unfold krow
  rw [flat_len (c := y.length) _ (by intro z hz; simp only [List.mem_map] at hz; obtain ⟨t, _, rfl⟩ := hz; exact scaleL_length)]
  simp
def KL (xss yss : List (List Int)) (i j : Nat) : List (List Int) := ((xss.take i).map fun x => yss.map (krow x)).flatten ++ (yss.take j).map (krow (xss.getD i []))
theorem KL_zero (xss yss : List (List Int)) : KL xss yss 0 0 = [] := by simp [KL]
theorem KL_next {xss yss : List (List Int)} {i j : Nat} (hj : j < yss.length) : KL xss yss i (j + 1) = KL xss yss i j ++ [krow (xss.getD i []) (yss.getD j [])] := by
  unfold KL
  rw [List.take_succ_eq_append_getElem hj, List.map_append, List.append_assoc]
  have e : yss.getD j [] = yss[j] := by simp [hj]
  rw [e]
  rfl
theorem KL_row {xss yss : List (List Int)} {i : Nat} (hi : i < xss.length) : KL xss yss i yss.length = KL xss yss (i + 1) 0 := by
  unfold KL
  rw [List.take_length, List.take_zero, List.map_nil, List.append_nil, List.take_succ_eq_append_getElem hi, List.map_append, List.flatten_append]
  have e : xss.getD i [] = xss[i] := by simp [hi]
  rw [e]
  simp
theorem KL_len {xss yss : List (List Int)} {i j : Nat} (hi : i ≤ xss.length) (hj : j ≤ yss.length) : (KL xss yss i j).length = i * yss.length + j := by
  unfold KL
  rw [List.length_append, List.length_map, List.length_take, Nat.min_eq_left hj]
  have h : ∀ L : List (List Int), (L.map fun x => yss.map (krow x)).flatten.length = L.length * yss.length := by
    intro L
    induction L with
    | nil => simp
    | cons a t ih => rw [List.map_cons, List.flatten_cons, List.length_append, ih, List.length_map, List.length_cons, Nat.add_mul, Nat.one_mul, Nat.add_comm]
  rw [h, List.length_take, Nat.min_eq_left hi]
theorem KL_rows {xss yss : List (List Int)} {c q : Nat} (hx : ∀ x ∈ xss, x.length = c) (hy : ∀ y ∈ yss, y.length = q) : ∀ z ∈ KL xss yss xss.length 0, z.length = c * q := by
  intro z hz
  unfold KL at hz
  rw [List.take_length, List.take_zero, List.map_nil, List.append_nil] at hz
  simp only [List.mem_flatten, List.mem_map] at hz
  obtain ⟨L, ⟨x, hx', rfl⟩, hz⟩ := hz
  simp only [List.mem_map] at hz
  obtain ⟨y, hy', rfl⟩ := hz
  rw [krow_length, hx x hx', hy y hy']
def kronL (r c p q : Nat) (xs ys : List Int) : List Int := (KL (rowsL r c xs) (rowsL p q ys) r 0).flatten
set_option maxHeartbeats 800000 in
set_option maxRecDepth 100000 in
theorem isShape_no {w : World} {r c : Nat} (h : ¬ (r ≤ 64 ∧ c ≤ 64)) : Calls Try.prog 44 #[.int .i64 (r : Int), .int .i64 (c : Int)] w fun e w' => e = .returned (.bool false) ∧ w' = w := by
  have h5 : ¬ (max (r : Int) (c : Int) ≤ 64) := by omega
  have h6 : 0 ≤ min (r : Int) (c : Int) := by omega
  clear h
  go_enter Try.func44, Try.ntmps44
  go_wp2
  go_ret
  exact ⟨rfl, rfl⟩
theorem row_zl {w : World} {r c k : Nat} {v : Value} {ps : List (Value × Value)} {xs : List Int} {i : Nat} (h : Prs 0 w v ((ps.drop (i * c)).take c)) (hz : Zis w ps xs k) (hi : i < r) : Zl w v ((rowsL r c xs).getD i []) k := zl_of h ((ziss_rows (r := r) (m := c) hz).2 i _ (rowsL_at hi))
theorem row_len {r c i : Nat} {xs : List Int} (hl : xs.length = r * c) (hi : i < r) : ((rowsL r c xs).getD i []).length = c := by
  have e : (rowsL r c xs).getD i [] = (xs.drop (i * c)).take c := by simp [rowsL, hi]
  rw [e]
  have h5 : (i + 1) * c ≤ r * c := Nat.mul_le_mul_right c hi
  have h6 : (i + 1) * c = i * c + c := by rw [Nat.add_mul, Nat.one_mul]
  simp
  omega
def KH (w2 : World) (r : Nat) (xss yss : List (List Int)) (k : Nat) (gk : Nat) (s7 s37 : Value) (wx : World) : Prop :=
  ∃ i : Nat, s37 = .int .i64 (i : Int) ∧ i ≤ r ∧ gk = r - i ∧ GatR w2.heap.size wx s7 (KL xss yss i 0) k ∧ Below w2.heap.size w2 wx
def KJ (w2 w3 : World) (br p i : Nat) (xss yss : List (List Int)) (k : Nat) (gk : Nat) (s7 s44 : Value) (wx : World) : Prop :=
  ∃ j : Nat, s44 = .int .i64 (j : Int) ∧ j ≤ p ∧ gk = p - j ∧ GatR w2.heap.size wx s7 (KL xss yss i j) k ∧ wx.heap[br]? = w3.heap[br]? ∧ (∀ b, s7.ownBlock = some b → b ≠ br) ∧ br < wx.heap.size ∧ Below w2.heap.size w2 wx
theorem gat_own {B k : Nat} {w : World} {v : Value} {zss : List (List Int)} (h : GatR B w v zss k) : ∀ b, v.ownBlock = some b → B ≤ b ∧ b < w.heap.size := by
  obtain ⟨vs, pss, h1, -⟩ := h
  exact World.ownsRow.lt h1
theorem gat_below {k : Nat} {w0 w w' : World} {v : Value} {zss : List (List Int)} (hb : Below w0.heap.size w0 w) (h : GatR w0.heap.size w v zss k) (hg : w.grownBy w' v.ownBlock) : Below w0.heap.size w0 w' := by
  refine hb.trans ⟨hg.os, hg.tape, hg.output, hg.size, fun b hb' => hg.block b (Nat.lt_of_lt_of_le hb' hb.size) (fun e => ?_)⟩
  have := (gat_own h b e.symm).1
  omega
set_option maxHeartbeats 3200000 in
set_option maxRecDepth 100000 in
theorem kron_no {w : World} {va vb : Value} {r c p q : Nat} {xs ys : List Int} {k l : Nat} (ha : Mx w va r c xs k) (hb : Mx w vb p q ys l) (hne : ¬ (r * p ≤ 64 ∧ c * q ≤ 64)) :
    Calls Try.prog 21 #[va, vb] w (GivesME w 5) := by
  obtain ⟨aa, ca, rfl, hr, hc⟩ := ha.form
  obtain ⟨ab, cb, rfl, hp, hq⟩ := hb.form
  generalize r * c = la at *
  generalize p * q = lb at *
  obtain ⟨W0, hW⟩ : ∃ W0, ((w.alloc (matO r c (.slice aa la ca))).alloc (matO p q (.slice ab lb cb))).alloc mbox = W0 := ⟨_, rfl⟩
  obtain ⟨b0, sz0⟩ := alloc3 w (matO r c (.slice aa la ca)) (matO p q (.slice ab lb cb)) mbox
  rw [hW] at b0 sz0
  obtain ⟨pa, pb, pr⟩ := three_boxes (o1 := matc r c (.slice aa la ca)) (o2 := matc p q (.slice ab lb cb)) hW
  obtain ⟨V1, hV⟩ : ∃ V1, W0.alloc (twoO r c p q (.slice aa la ca) (.slice ab lb cb)) = V1 := ⟨_, rfl⟩
  obtain ⟨b1, sz1⟩ := alo1 W0 (twoO r c p q (.slice aa la ca) (.slice ab lb cb))
  rw [hV] at b1 sz1
  have HCK := hid (checkAll_yes (ms_two hV (ha.now b0) (hb.now b0)))
  have x0 := pa.at (i := 0) rfl
  have x1 := pa.at (i := 1) rfl
  have x2 := pa.at (i := 2) rfl
  have y0 := pb.at (i := 0) rfl
  have y1 := pb.at (i := 1) rfl
  have y2 := pb.at (i := 2) rfl
  rw [← hW] at x0 x1 x2 y0 y1 y2
  have PA := hid (pa.step b1)
  have PB := hid (pb.step b1)
  have PR := hid (pr.step b1)
  have G1 := hid (below_step b0 b1)
  have EQ : Hid ((((w.alloc (matO r c (.slice aa la ca))).alloc (matO p q (.slice ab lb cb))).alloc mbox).alloc (twoO r c p q (.slice aa la ca) (.slice ab lb cb)) = V1) := by unfold Hid; rw [hW, hV]
  have SW : Hid (W0.heap.size = w.heap.size + 1 + 1 + 1) := sz0
  rw [SW.out] at HCK
  have hm0 := wrapM9 (i := r) (c := p) hr hp
  have hm1 := wrapM9 (i := c) (c := q) hc hq
  generalize r * p = R at *
  generalize c * q = Q9 at *
  have u0 := hm0
  have u1 := hm1
  rw [IntKind.wrap_i64] at u0 u1
  have HNO := hid hne
  clear ha hb b0 sz0 hW pa pb pr b1 sz1 hV hne
  go_enter Try.func21, Try.ntmps21
  go_wp2_with fail
  rw [EQ.out]
  refine HCK.out.mono ?_
  rintro e w1 ⟨rfl, b⟩
  have PR1 := hid (PR.out.step b)
  have G2 := hid (below_step G1.out b)
  have z0 := (PA.out.step b).at (i := 0) rfl
  have z1 := (PA.out.step b).at (i := 1) rfl
  have t0 := (PB.out.step b).at (i := 0) rfl
  have t1 := (PB.out.step b).at (i := 1) rfl
  clear HCK b x0 x1 x2 y0 y1 y2 EQ PA PB PR G1
  go_wp2_with fail
  refine (isShape_no (w := w1) HNO.out).mono ?_
  rintro e w2 ⟨rfl, hw2⟩
  have hw2' := hw2.symm
  subst hw2'
  have r0 := PR1.out.at (i := 0) rfl
  have r1 := PR1.out.at (i := 1) rfl
  have r2 := PR1.out.at (i := 2) rfl
  have f0 := PR1.out.fz 0
  have f1 := PR1.out.fz 1
  have f2 := PR1.out.fz 2
  have FIN : Hid (GivesME w 5 (.returned (.tuple #[mzero, .int .i64 5])) (put3 w1 (w.heap.size + 1 + 1) (.int .i64 0) (.int .i64 0) (.slice none 0 0))) := ⟨rfl, below_put3 G2.out (by omega) _ _ _⟩
  have PF := hid (PR1.out.put3 (.int .i64 0) (.int .i64 0) (.slice none 0 0))
  clear hw2 G2
  go_wp2
  exact bodyPost_ret (mback1 Try.results21 PF.out _ (by rfl) (by rfl)) rfl FIN.out
set_option maxHeartbeats 3200000 in
set_option maxRecDepth 100000 in
theorem kron_yes {w : World} {va vb : Value} {r c p q : Nat} {xs ys : List Int} {k l : Nat} (ha : Mx w va r c xs k) (hb : Mx w vb p q ys l) (hR : r * p ≤ 64) (hQ : c * q ≤ 64) (hk : k + l ≤ 35184372088832) :
    Calls Try.prog 21 #[va, vb] w (GivesMO w (r * p) (c * q) (kronL r c p q xs ys) (k + l)) := by
  have MA := hid ha
  have MB := hid hb
  obtain ⟨ata, psa, rfl, pa1, pa2, pa3, hr, hc⟩ := ha
  obtain ⟨atb, psb, rfl, pb1, pb2, pb3, hp, hq⟩ := hb
  obtain ⟨aa, ca, rfl, -, -, -, -⟩ := pa1.form
  obtain ⟨ab, cb, rfl, -, -, -, -⟩ := pb1.form
  have HLA : Hid (psa.length = r * c) := by unfold Hid; rw [pa2.1, pa3]
  have HLB : Hid (psb.length = p * q) := by unfold Hid; rw [pb2.1, pb3]
  have A0 := hid pa1
  have B0 := hid pb1
  have ZA := hid pa2
  have ZB := hid pb2
  have LX := hid pa3
  have LY := hid pb3
  have XR : Hid (∀ i, i < r → ((rowsL r c xs).getD i []).length = c) := fun i hi => row_len pa3 hi
  have YR : Hid (∀ j, j < p → ((rowsL p q ys).getD j []).length = q) := fun j hj => row_len pb3 hj
  have KRS : Hid (∀ z ∈ KL (rowsL r c xs) (rowsL p q ys) r 0, z.length = c * q) := by
    have := KL_rows (xss := rowsL r c xs) (yss := rowsL p q ys) (rows_len pa3) (rows_len pb3)
    rw [show (rowsL r c xs).length = r by simp [rowsL]] at this
    exact this
  have KLN : Hid ((KL (rowsL r c xs) (rowsL p q ys) r 0).length = r * p) := by
    unfold Hid
    rw [KL_len (by simp [rowsL]) (Nat.zero_le _)]
    simp [rowsL]
  have KLE : Hid (∀ i j, i ≤ r → j ≤ p → (KL (rowsL r c xs) (rowsL p q ys) i j).length ≤ 1048576) := fun i j hi hj => by
    rw [KL_len (by simpa [rowsL] using hi) (by simpa [rowsL] using hj)]
    have h1 : i * (rowsL p q ys).length ≤ 64 * 64 := Nat.mul_le_mul (by omega) (by simp [rowsL]; exact hp)
    omega
  have KN : Hid (∀ i j, j < p → KL (rowsL r c xs) (rowsL p q ys) i (j + 1) = KL (rowsL r c xs) (rowsL p q ys) i j ++ [krow ((rowsL r c xs).getD i []) ((rowsL p q ys).getD j [])]) := fun i j hj => KL_next (by simpa [rowsL] using hj)
  have KRW : Hid (∀ i, i < r → KL (rowsL r c xs) (rowsL p q ys) i p = KL (rowsL r c xs) (rowsL p q ys) (i + 1) 0) := fun i hi => by
    have := KL_row (xss := rowsL r c xs) (yss := rowsL p q ys) (i := i) (by simpa [rowsL] using hi)
    rw [show (rowsL p q ys).length = p by simp [rowsL]] at this
    exact this
  have KZ := hid (KL_zero (rowsL r c xs) (rowsL p q ys))
  have ROWA : Hid (∀ w' v i, i < r → Below w.heap.size w w' → Prs 0 w v ((psa.drop (i * c)).take c) → Zl w' v ((rowsL r c xs).getD i []) k) := fun w' v i hi hb h => (row_zl h pa2 hi).now hb
  have ROWB : Hid (∀ w' v j, j < p → Below w.heap.size w w' → Prs 0 w v ((psb.drop (j * q)).take q) → Zl w' v ((rowsL p q ys).getD j []) l) := fun w' v j hj hb h => (row_zl h pb2 hj).now hb
  have KD : Hid (kronL r c p q xs ys = (KL (rowsL r c xs) (rowsL p q ys) r 0).flatten) := rfl
  have HK := hid hk
  have hm0 := wrapM9 (i := r) (c := p) hr hp
  have hm1 := wrapM9 (i := c) (c := q) hc hq
  obtain ⟨la, hla⟩ : ∃ la, psa.length = la := ⟨_, rfl⟩
  obtain ⟨lb, hlb⟩ : ∃ lb, psb.length = lb := ⟨_, rfl⟩
  rw [hla] at MA A0 ⊢
  rw [hlb] at MB B0 ⊢
  clear pa1 pa2 pa3 pb1 pb2 pb3 hla hlb hk
  generalize rowsL r c xs = XS at *
  generalize rowsL p q ys = YS at *
  generalize kronL r c p q xs ys = KR at *
  obtain ⟨R, hRR⟩ : ∃ R, r * p = R := ⟨_, rfl⟩
  obtain ⟨Q9, hQQ⟩ : ∃ Q9, c * q = Q9 := ⟨_, rfl⟩
  have HQC := hid hQQ
  rw [hRR] at hm0 hR KLN ⊢
  rw [hQQ] at hm1 hQ KRS ⊢
  have u0 := hm0
  have u1 := hm1
  rw [IntKind.wrap_i64] at u0 u1
  clear hRR hQQ
  obtain ⟨W0, hW⟩ : ∃ W0, ((w.alloc (matO r c (.slice aa la ca))).alloc (matO p q (.slice ab lb cb))).alloc mbox = W0 := ⟨_, rfl⟩
  obtain ⟨b0, sz0⟩ := alloc3 w (matO r c (.slice aa la ca)) (matO p q (.slice ab lb cb)) mbox
  rw [hW] at b0 sz0
  obtain ⟨pa, pb, pr⟩ := three_boxes (o1 := matc r c (.slice aa la ca)) (o2 := matc p q (.slice ab lb cb)) hW
  obtain ⟨V1, hV⟩ : ∃ V1, W0.alloc (twoO r c p q (.slice aa la ca) (.slice ab lb cb)) = V1 := ⟨_, rfl⟩
  obtain ⟨b1, sz1⟩ := alo1 W0 (twoO r c p q (.slice aa la ca) (.slice ab lb cb))
  rw [hV] at b1 sz1
  have HCK := hid (checkAll_yes (ms_two hV (MA.out.now b0) (MB.out.now b0)))
  have x0 := pa.at (i := 0) rfl
  have x1 := pa.at (i := 1) rfl
  have x2 := pa.at (i := 2) rfl
  have y0 := pb.at (i := 0) rfl
  have y1 := pb.at (i := 1) rfl
  have y2 := pb.at (i := 2) rfl
  rw [← hW] at x0 x1 x2 y0 y1 y2
  have PA := hid (pa.step b1)
  have PB := hid (pb.step b1)
  have PR := hid (pr.step b1)
  have G1 := hid (below_step b0 b1)
  have EQ : Hid ((((w.alloc (matO r c (.slice aa la ca))).alloc (matO p q (.slice ab lb cb))).alloc mbox).alloc (twoO r c p q (.slice aa la ca) (.slice ab lb cb)) = V1) := by unfold Hid; rw [hW, hV]
  have SW : Hid (W0.heap.size = w.heap.size + 1 + 1 + 1) := sz0
  rw [SW.out] at HCK
  clear b0 sz0 hW pa pb pr b1 sz1 hV MA MB
  go_enter Try.func21, Try.ntmps21
  go_wp2_with fail
  rw [EQ.out]
  refine HCK.out.mono ?_
  rintro e w1 ⟨rfl, b⟩
  have PA1 := hid (PA.out.step b)
  have PB1 := hid (PB.out.step b)
  have PR1 := hid (PR.out.step b)
  have G2 := hid (below_step G1.out b)
  have z0 := PA1.out.at (i := 0) rfl
  have z1 := PA1.out.at (i := 1) rfl
  have z2 := PA1.out.at (i := 2) rfl
  have t0 := PB1.out.at (i := 0) rfl
  have t1 := PB1.out.at (i := 1) rfl
  clear HCK b x0 x1 x2 y0 y1 y2 EQ PA PB PR G1
  go_wp2_with fail
  refine (isShape_yes (w := w1) hR hQ).mono ?_
  rintro e w1' ⟨rfl, hw1⟩
  have hw1' := hw1.symm
  subst hw1'
  have HRO := hid (rowsOf_at (w := w1) A0.out HLA.out hr hc)
  go_wp2_with fail
  refine HRO.out.mono ?_
  rintro e w2 ⟨bra, rfl, hb1, hb2, hrows, b⟩
  have RWA := hid hrows
  have PA2 := hid (PA1.out.step b)
  have PB2 := hid (PB1.out.step b)
  have PR2 := hid (PR1.out.step b)
  have G3 := hid (below_step G2.out b)
  have SZ2 : Hid (w.heap.size + 1 + 1 < w2.heap.size) := PR2.out.blk
  have H0 : Hid (KH w2 r XS YS (k + l) r (.slice none 0 0) (.int .i64 0) w2) := ⟨0, rfl, Nat.zero_le _, by omega, by rw [KZ.out]; exact GatR.nil _ _ _, Below.refl _ _⟩
  clear HRO b hrows hb1 hb2 z0 z1 z2 t0 t1 PA1 PB1 PR1 G2 hw1
  go_wp2_with fail
  go_loopg [7, 37] r (fun gk s7 s37 wx => KH w2 r XS YS (k + l) gk s7 s37 wx)
  case atStart => exact H0.out
  case round =>
    clear H0
    obtain ⟨i, rfl, hin, hg, hgat, hG⟩ := hrel
    have GA := hid hgat
    have GL := hid hG
    have HG := hid hg
    clear hgat hG hg
    by_cases hlt : i < r
    · have hlt' : (i : Int) < (r : Int) := by omega
      obtain ⟨ai, ci, k0', hpi⟩ := RWA.out i hlt
      have k0 := cnow GL.out k0'
      have PI := hid hpi
      have hw := wrapI9 (i := i) (by omega)
      have t0 := (PB2.out.step GL.out).at (i := 0) rfl
      have t1 := (PB2.out.step GL.out).at (i := 1) rfl
      have t2 := (PB2.out.step GL.out).at (i := 2) rfl
      have HRO := hid (rowsOf_at (w := wr) B0.out HLB.out hp hq)
      have HMM : Hid (r - (i + 1) < gk) := by unfold Hid; rw [HG.out]; omega
      clear k0' hpi HG
      go_wp2_with fail
      refine HRO.out.mono ?_
      rintro e w3 ⟨br, rfl, hb1, hb2, hrows, b⟩
      have RWB := hid hrows
      have H1 : Hid (∀ s7, GatR w2.heap.size wr s7 (KL XS YS i 0) (k + l) → KJ w2 w3 br p i XS YS (k + l) p s7 (.int .i64 0) w3) := fun s7 hs7 =>
        ⟨0, rfl, Nat.zero_le _, by omega, hs7.now b, rfl, fun b' hb' e => by have := (gat_own hs7 b' hb').2; omega, hb2, below_step GL.out b⟩
      have H2 := hid (H1.out _ GA.out)
      clear HRO b hrows hb1 hb2 t0 t1 t2 H1 GA GL k0
      go_wp2_with fail
      go_loopg [7, 44] p (fun gk s7 s44 wx => KJ w2 w3 br p i XS YS (k + l) gk s7 s44 wx)
      case atStart => exact H2.out
      case round =>
        clear H2
        obtain ⟨j, rfl, hjn, hg, hgat, hbr, hown, hbrl, hG⟩ := hrel
        have GA := hid hgat
        have GL := hid hG
        have HG := hid hg
        have HBR := hid hbr
        have HOWN := hid hown
        have HBRL := hid hbrl
        clear hgat hG hg hbr hown hbrl
        by_cases hlt2 : j < p
        · have hlt2' : (j : Int) < (p : Int) := by omega
          have hw2 := wrapI9 (i := j) (by omega)
          obtain ⟨aj, cj, l0', hpj⟩ := RWB.out j hlt2
          have l0 := (World.cell?_of_block (a := ⟨br, j, none⟩) HBR.out).trans l0'
          obtain ⟨V1', hV⟩ : ∃ V1', wr.alloc (.cells #[.slice aj q cj] 22) = V1' := ⟨_, rfl⟩
          obtain ⟨b, sz1⟩ := alo1 wr (.cells #[.slice aj q cj] 22)
          rw [hV] at b sz1
          have hcy : V1'.cell? ⟨wr.heap.size, 0, none⟩ = some (.slice aj q cj) := by rw [← hV]; exact (Cel.new wr 22 [.slice aj q cj]).at (i := 0) rfl
          have GV := hid (below_step GL.out b)
          have GW := hid (below_step G3.out GV.out)
          have HE := hid (eachKron_any (ROWA.out V1' _ i hlt GW.out PI.out) hcy (ROWB.out V1' _ j hlt2 GW.out hpj) HK.out)
          have GA1 := hid (GA.out.now b)
          have BR1 : Hid (V1'.heap[br]? = w3.heap[br]?) := (b.block br HBRL.out).trans HBR.out
          have LV : Hid (wr.heap.size < V1'.heap.size) := by unfold Hid; omega
          have EV := hid hV
          clear l0' hpj b sz1 hV hcy GA GL HBR
          go_wp2_with fail
          rw [EV.out]
          refine HE.out.mono ?_
          rintro e w4 ⟨u4, p4, rfl, q4, z4, b⟩
          have GA2 := hid (GA1.out.now b)
          have BR2 : Hid (w4.heap[br]? = w3.heap[br]?) := (b.block br (by have h1 := HBRL.out; have h2 := LV.out; omega)).trans BR1.out
          have G4 := hid (below_step GV.out b)
          have L4 : Hid (V1'.heap.size ≤ w4.heap.size) := (show Below _ _ _ from b).size
          have hsm : Same9 q p4 := same_of z4.zcss (by intro z hz; simp only [List.mem_map] at hz; obtain ⟨t, _, rfl⟩ := hz; rw [scaleL_length, YR.out j hlt2])
          have hp4 : p4.length = c := by rw [z4.1, List.length_map, XR.out i hlt]
          have HC := hid (concat_own q4 hsm (by rw [hp4, HQC.out]; omega) (by omega))
          have Z4 := hid z4
          obtain ⟨a4, c4, rfl, -, -, -⟩ := q4.form
          clear HE b q4 z4 hsm hp4 EV l0 GA1 BR1 GV GW
          go_wp2_with fail
          refine HC.out.mono ?_
          rintro e w5 ⟨v5, rfl, ho5, hl5, b⟩
          have PT5 := hid (ho5.prsT hl5)
          have Z5 := hid ((Zmss.flat Z4.out).now b)
          have GA3 := hid (GA2.out.now b)
          have BR3 : Hid (w5.heap[br]? = w3.heap[br]?) := (b.block br (by have h1 := HBRL.out; have h2 := LV.out; have h3 := L4.out; omega)).trans BR2.out
          have G5 := hid (below_step G4.out b)
          have L5 : Hid (w4.heap.size ≤ w5.heap.size) := (show Below _ _ _ from b).size
          obtain ⟨a5, c5, rfl, -, -, -, -⟩ := PT5.out.1.form
          clear HC b ho5 hl5 GA2 BR2 G4 Z4
          have EK : Hid ((List.map (fun x => scaleL x (YS.getD j [])) (XS.getD i [])).flatten = krow (XS.getD i []) (YS.getD j [])) := rfl
          rw [EK.out] at Z5
          obtain ⟨V6, hV⟩ : ∃ V6, w5.alloc (.cells #[.slice a5 p4.flatten.length c5] 22) = V6 := ⟨_, rfl⟩
          obtain ⟨b, sz6⟩ := alo1 w5 (.cells #[.slice a5 p4.flatten.length c5] 22)
          rw [hV] at b sz6
          have hc6 : Hid (V6.cell? ⟨w5.heap.size, 0, none⟩ = some (.slice a5 p4.flatten.length c5)) := by unfold Hid; rw [← hV]; exact (Cel.new w5 22 [.slice a5 p4.flatten.length c5]).at (i := 0) rfl
          have PT6 := hid (PT5.out.now b)
          have Z6 := hid (Z5.out.now b)
          have GA6 := hid (GA3.out.now b)
          have BR6 : Hid (V6.heap[br]? = w3.heap[br]?) := (b.block br (by have h1 := HBRL.out; have h2 := LV.out; have h3 := L4.out; have h4 := L5.out; omega)).trans BR3.out
          have G6 := hid (below_step G5.out b)
          have LB6 : Hid (br < V6.heap.size) := by unfold Hid; have h1 := HBRL.out; have h2 := LV.out; have h3 := L4.out; have h4 := L5.out; omega
          have EV := hid hV
          have HLK := hid (KLE.out i j (by omega) (by omega))
          clear b sz6 hV PT5 Z5 GA3 BR3 G5 EK
          generalize p4.flatten.length = lf at *
          go_wp2_with (at_builtin; rw [EV.out]; refine wpList_append_row9 _ rfl (.tmp 51) (.tmp 54) rfl w2.heap.size (k + l) _ a5 lf c5 (KL XS YS i j) p4.flatten (krow (XS.getD i []) (YS.getD j [])) rfl GA6.out w5.heap.size rfl hc6.out PT6.out Z6.out HLK.out G6.out.size ?_)
          intro g7 l7 cap7 w7 hga hgr hat
          have HN1 : Hid (KJ w2 w3 br p i XS YS (k + l) (p - (j + 1)) (.slice (some ⟨g7, 0, none⟩) l7 cap7) (.int .i64 ((j + 1 : Nat) : Int)) w7) := by
            refine ⟨j + 1, rfl, by omega, rfl, by rw [KN.out i j hlt2]; exact hga.out, (hgr.out.block br LB6.out (fun e => HOWN.out br e.symm rfl)).trans BR6.out, fun b' hb' e => ?_, Nat.lt_of_lt_of_le LB6.out hgr.out.size, gat_below G6.out GA6.out hgr.out⟩
            simp only [Value.ownBlock, Option.some.injEq] at hb'
            subst hb'
            rcases hat.out with h | h
            · exact HOWN.out _ h e
            · have := LB6.out; omega
          have HM2 : Hid (p - (j + 1) < gk) := by unfold Hid; rw [HG.out]; omega
          clear hga hgr hat GA6 BR6 G6 LB6 EV HLK PT6 Z6 hc6 HOWN HBRL LV L4 L5 HG
          go_wp2_with fail
          go_roundg (p - (j + 1))
          case rel => exact HN1.out
          case measure => exact HM2.out
        · have hlt2' : ¬ (j : Int) < (p : Int) := by omega
          obtain rfl : j = p := by omega
          have HN1 : Hid (∀ s7, GatR w2.heap.size wr s7 (KL XS YS i j) (k + l) → KH w2 r XS YS (k + l) (r - (i + 1)) s7 (.int .i64 ((i + 1 : Nat) : Int)) wr) := fun s7 hs7 => ⟨i + 1, rfl, by omega, rfl, by rw [← KRW.out i hlt]; exact hs7, GL.out⟩
          have HN2 := hid (HN1.out _ GA.out)
          clear GA GL HG HBR HOWN HBRL HN1
          go_wp2_with fail
          go_roundg (r - (i + 1))
          case rel => exact HN2.out
          case measure => exact HMM.out
    · have hlt' : ¬ (i : Int) < (r : Int) := by omega
      obtain rfl : i = r := by omega
      obtain ⟨pss, q1, z1⟩ := GA.out.prr (by rw [KLN.out]; omega)
      have hpl : pss.length = R := by rw [z1.1, KLN.out]
      have hRQ : R * Q9 ≤ 64 * 64 := Nat.mul_le_mul hR hQ
      have HOF := hid (ofRows_any (C := Q9) q1 (same_of z1.zcss KRS.out) (by rw [hpl]; omega) (by omega) hpl)
      have ZZ := hid (Zmss.flat z1).zcs
      rw [← KD.out] at ZZ
      have KRL : Hid (KR.length = R * Q9) := by
        unfold Hid
        rw [KD.out, flat_len _ KRS.out, KLN.out]
      obtain ⟨a7, c7, e7⟩ := GA.out.form
      have GW := hid (below_step G3.out GL.out)
      have PR3 := hid (PR2.out.step GL.out)
      have z0 := (PA2.out.step GL.out).at (i := 1) rfl
      have t0 := (PB2.out.step GL.out).at (i := 1) rfl
      have SZ3 : Hid (w.heap.size + 1 + 1 < wr.heap.size) := PR3.out.blk
      subst e7
      generalize (KL XS YS i 0).length = ln at *
      clear HG GA GL q1 z1 hpl hRQ
      go_wp2_with fail
      refine HOF.out.mono ?_
      rintro e w8 ⟨at8, rfl, q8, b⟩
      obtain ⟨a8, c8, rfl, -, -, -, -⟩ := q8.form
      have PR8 := hid (PR3.out.step b)
      have G8 := hid (below_step GW.out b)
      have hmc : Mc w8 (matv R Q9 (.slice a8 pss.flatten.length c8)) R Q9 KR (k + l) := ⟨_, pss.flatten, rfl, q8.mono (Nat.zero_le _), ZZ.out.now b, KRL.out, hR, hQ⟩
      generalize pss.flatten.length = l8 at *
      have FIN : Hid (GivesMO w R Q9 KR (k + l) (.returned (.tuple #[.agg #[.int .i64 (R : Int), .int .i64 (Q9 : Int), .slice a8 l8 c8], .int .i64 0])) (put3 w8 (w.heap.size + 1 + 1) (.int .i64 (R : Int)) (.int .i64 (Q9 : Int)) (.slice a8 l8 c8))) :=
        ⟨_, rfl, hmc.wk PR8.out _ _ _, below_put3 G8.out (by omega) _ _ _⟩
      have PF := hid (PR8.out.put3 (.int .i64 (R : Int)) (.int .i64 (Q9 : Int)) (.slice a8 l8 c8))
      have r0 := PR8.out.at (i := 0) rfl
      have r1 := PR8.out.at (i := 1) rfl
      have r2 := PR8.out.at (i := 2) rfl
      have f0 := PR8.out.fz 0
      have f1 := PR8.out.fz 1
      have f2 := PR8.out.fz 2
      clear HOF q8 b hmc z0 t0 ZZ
      go_wp2
      exact bodyPost_ret (mback1 Try.results21 PF.out _ (by rfl) (by rfl)) rfl FIN.out
end Go.Proofs.Ytojhmkkjjalonaa
