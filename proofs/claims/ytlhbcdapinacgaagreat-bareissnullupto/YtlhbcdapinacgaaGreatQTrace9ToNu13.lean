/-
  QTrace9ToNu13: Trace9, TurnP9, AddNo9, Sp13, Nl13, Nu13, joined.
-/
import Derived.Test.YtlhbcdapinacgaaGreatQTurn9
import Derived.Test.YtlhbcdapinacgaaGreatQAdd9
import Derived.Test.YtlhbcdapinacgaaGreatQUq13ToSl13
import Derived.Test.YtlhbcdapinacgaaGreatQWk13ToRf13
import Derived.Test.YtlhbcdapinacgaaGreatQRound8ToPure9
import Derived.Test.YtlhbcdapinacgaaGreatQPk13ToSd13
import Derived.Test.YtlhbcdapinacgaaGreatQCo13
import Derived.Deep.CutRange

/- Trace9 -/
namespace Go.Proofs.YtlhbcdapinacgaaGreat
open Go.RowKit
set_option linter.unusedVariables false

theorem mat_int_boxes {w W0 : World} {o1 : List Value} (hW : (w.alloc (.cells o1.toArray 24)).alloc zbox = W0) :
    Cel W0 w.heap.size 24 o1 ∧ Duo W0 (w.heap.size + 1) (.bool false) (.slice none 0 0) := by
  refine ⟨?_, ?_⟩
  · rw [← hW]
    exact (Cel.new w 24 o1).step ((Below.refl _ _).alloc (Nat.le_refl _) _)
  · rw [← hW]
    have := Duo.new (w.alloc (.cells o1.toArray 24)) (.bool false) (.slice none 0 0)
    simpa using this
def diagL {α : Type} (n : Nat) (ps : List α) (z : α) (i : Nat) : List α := (List.range i).map fun t => ps.getD (t * n + t) z
theorem diagL_succ {α : Type} {n i : Nat} {ps : List α} {z : α} : diagL n ps z (i + 1) = diagL n ps z i ++ [ps.getD (i * n + i) z] := by simp [diagL, List.range_succ]
theorem diagL_length {α : Type} {n i : Nat} {ps : List α} {z : α} : (diagL n ps z i).length = i := by simp [diagL]
def traceL (n : Nat) (zs : List Int) : Int := zsum (diagL n zs 0 n)
theorem zis_diag {w : World} {ps : List (Value × Value)} {zs : List Int} {k n : Nat} (h : Zis w ps zs k) (hl : zs.length = n * n) : Zis w (diagL n ps zpair n) (diagL n zs 0 n) k := by
  refine ⟨by simp [diagL_length], fun t p z hp hz => ?_⟩
  have ht : t < n := by simpa [diagL] using (List.getElem?_eq_some_iff.1 hp).1
  have h7 : t * n + t < zs.length := by rw [hl]; exact place_lt ht ht
  have h8 : t * n + t < ps.length := by rw [h.1]; exact h7
  have e3 : p = ps[t * n + t] := by simp [diagL, ht, h8] at hp; exact hp.symm
  have e4 : z = zs[t * n + t] := by simp [diagL, ht, h7] at hz; exact hz.symm
  rw [e3, e4]
  exact h.2 _ _ _ (List.getElem?_eq_getElem h8) (List.getElem?_eq_getElem h7)
def TraceH (w2 : World) (n : Nat) (ps : List (Value × Value)) (gk : Nat) (s5 s17 : Value) (wx : World) : Prop := ∃ i : Nat, s17 = .int .i64 (i : Int) ∧ i ≤ n ∧ gk = n - i ∧ OwnP w2.heap.size wx s5 (diagL n ps zpair i) ∧ Below w2.heap.size w2 wx
end Go.Proofs.YtlhbcdapinacgaaGreat

/- TurnP9 -/
namespace Go.Proofs.YtlhbcdapinacgaaGreat
set_option linter.unusedVariables false

theorem turn_at {r c i j : Nat} {zs : List Int} (hi : i < r) (hj : j < c) : (turnL9 r c zs).getD (j * r + i) 0 = zs.getD (i * c + j) 0 := by
  unfold turnL9
  rw [flat_getD hi cols_len (by simp [colsL]; exact hj)]
  have e1 : (colsL r c zs 0).getD j [] = colL c zs 0 r j := by simp [colsL, hj]
  rw [e1]
  simp [colL, hi]
theorem turn_turn {r c : Nat} {zs : List Int} (hl : zs.length = r * c) : turnL9 c r (turnL9 r c zs) = zs := by
  refine mat_ext (r := r) (c := c) turnL9_length hl (fun i j hi hj => ?_)
  rw [turn_at hj hi, turn_at hi hj]
theorem turn_prod {r m c : Nat} {xs ys : List Int} (hx : xs.length = r * m) : turnL9 r c (prodL r m c xs ys) = prodL c m r (turnL9 m c ys) (turnL9 r m xs) := by
  refine mat_ext (r := c) (c := r) turnL9_length prodL_length (fun j i hj hi => ?_)
  rw [turn_at hi hj, prod_at hx hi hj, prod_at turnL9_length hj hi]
  refine sumN_congr (fun t ht => ?_)
  rw [turn_at ht hj, turn_at hi ht, Int.mul_comm]
theorem trace_sum {n : Nat} {zs : List Int} : traceL n zs = sumN n (fun t => zs.getD (t * n + t) 0) := rfl
theorem trace_prod {r m : Nat} {xs ys : List Int} (hx : xs.length = r * m) (hy : ys.length = m * r) : traceL r (prodL r m r xs ys) = traceL m (prodL m r m ys xs) := by
  rw [trace_sum, trace_sum, sumN_congr (fun i hi => prod_at hx hi hi), sumN_congr (fun t ht => prod_at hy ht ht), sumN_swap]
  exact sumN_congr (fun t _ => sumN_congr (fun i _ => Int.mul_comm _ _))
end Go.Proofs.YtlhbcdapinacgaaGreat

/- AddNo9 -/
namespace Go.Proofs.YtlhbcdapinacgaaGreat
open Go.RowKit
set_option linter.unusedVariables false

set_option maxHeartbeats 800000 in
set_option maxRecDepth 100000 in
theorem sameShape_no {w : World} {r c r' c' la lb ca cb : Nat} {aa ab : Option Addr} (hne : r ≠ r' ∨ c ≠ c') :
    Calls Tryz.prog 86 #[matv r c (.slice aa la ca), matv r' c' (.slice ab lb cb)] w fun e w' => e = .returned (.bool false) ∧ Below w.heap.size w w' := by
  obtain ⟨W0, hW⟩ : ∃ W0, (w.alloc (matO r c (.slice aa la ca))).alloc (matO r' c' (.slice ab lb cb)) = W0 := ⟨_, rfl⟩
  obtain ⟨b0, sz0⟩ := alloc2 w (matO r c (.slice aa la ca)) (matO r' c' (.slice ab lb cb))
  rw [hW] at b0
  have pa : Cel W0 w.heap.size 24 (matc r c (.slice aa la ca)) := by
    rw [← hW]
    exact (Cel.new w 24 (matc r c (.slice aa la ca))).step ((Below.refl _ _).alloc (Nat.le_refl _) _)
  have pb : Cel W0 (w.heap.size + 1) 24 (matc r' c' (.slice ab lb cb)) := by
    rw [← hW]
    have := Cel.new (w.alloc (matO r c (.slice aa la ca))) 24 (matc r' c' (.slice ab lb cb))
    simpa using this
  have x0 := pa.at (i := 0) rfl
  have x1 := pa.at (i := 1) rfl
  have y0 := pb.at (i := 0) rfl
  have y1 := pb.at (i := 1) rfl
  rw [← hW] at x0 x1 y0 y1
  have G0 := hid b0
  have EW := hid hW
  clear b0 sz0 hW pa pb
  by_cases hr : r = r'
  · have hc : c ≠ c' := by omega
    subst hr
    have q0 : ((r : Int) == (r : Int)) = true := by simp
    have q1 : ((c : Int) == (c' : Int)) = false := by simp; omega
    clear hne hc
    go_enter Tryz.func86, Tryz.ntmps86
    go_wp2
    go_ret
    rw [EW.out]
    exact ⟨rfl, G0.out⟩
  · have q0 : ((r : Int) == (r' : Int)) = false := by simp; omega
    clear hne hr
    go_enter Tryz.func86, Tryz.ntmps86
    go_wp2
    go_ret
    rw [EW.out]
    exact ⟨rfl, G0.out⟩
set_option maxHeartbeats 1600000 in
set_option maxRecDepth 100000 in
theorem place_no {w : World} {va vb : Value} {r c r' c' : Nat} {xs ys : List Int} {k l : Nat} (ha : Mx w va r c xs k) (hb : Mx w vb r' c' ys l) (hne : r ≠ r' ∨ c ≠ c') :
    Calls Tryz.prog 61 #[va, vb, fnAdd] w (GivesME w 2) := by
  obtain ⟨aa, ca, rfl, hr, hc⟩ := ha.form
  obtain ⟨ab, cb, rfl, -, -⟩ := hb.form
  generalize r * c = N at *
  generalize r' * c' = N' at *
  obtain ⟨W0, hW⟩ : ∃ W0, ((w.alloc (matO r c (.slice aa N ca))).alloc (matO r' c' (.slice ab N' cb))).alloc mbox = W0 := ⟨_, rfl⟩
  obtain ⟨b0, sz0⟩ := alloc3 w (matO r c (.slice aa N ca)) (matO r' c' (.slice ab N' cb)) mbox
  rw [hW] at b0 sz0
  obtain ⟨pa, pb, pr⟩ := three_boxes (o1 := matc r c (.slice aa N ca)) (o2 := matc r' c' (.slice ab N' cb)) hW
  obtain ⟨V1, hV⟩ : ∃ V1, W0.alloc (twoO r c r' c' (.slice aa N ca) (.slice ab N' cb)) = V1 := ⟨_, rfl⟩
  obtain ⟨b1, sz1⟩ := alo1 W0 (twoO r c r' c' (.slice aa N ca) (.slice ab N' cb))
  rw [hV] at b1 sz1
  have HCK := hid (checkAll_yes (ms_two hV (ha.now b0) (hb.now b0)))
  have x0 := pa.at (i := 0) rfl
  have x1 := pa.at (i := 1) rfl
  have x2 := pa.at (i := 2) rfl
  have y0 := pb.at (i := 0) rfl
  have y1 := pb.at (i := 1) rfl
  have y2 := pb.at (i := 2) rfl
  rw [← hW] at x0 x1 x2 y0 y1 y2
  have PA := hid (pa.step b1)
  have PB := hid (pb.step b1)
  have PR := hid (pr.step b1)
  have G1 := hid (below_step b0 b1)
  have EQ : Hid ((((w.alloc (matO r c (.slice aa N ca))).alloc (matO r' c' (.slice ab N' cb))).alloc mbox).alloc (twoO r c r' c' (.slice aa N ca) (.slice ab N' cb)) = V1) := by unfold Hid; rw [hW, hV]
  have SW : Hid (W0.heap.size = w.heap.size + 1 + 1 + 1) := sz0
  rw [SW.out] at HCK
  have HNE := hid hne
  clear ha hb b0 sz0 hW pa pb pr b1 sz1 hV hne
  go_enter Tryz.func61, Tryz.ntmps61
  go_wp2_with fail
  rw [EQ.out]
  refine HCK.out.mono ?_
  rintro e w1 ⟨rfl, b⟩
  have PA1 := hid (PA.out.step b)
  have PB1 := hid (PB.out.step b)
  have PR1 := hid (PR.out.step b)
  have G2 := hid (below_step G1.out b)
  have z0 := PA1.out.at (i := 0) rfl
  have z1 := PA1.out.at (i := 1) rfl
  have z2 := PA1.out.at (i := 2) rfl
  have t0 := PB1.out.at (i := 0) rfl
  have t1 := PB1.out.at (i := 1) rfl
  have t2 := PB1.out.at (i := 2) rfl
  clear HCK b x0 x1 x2 y0 y1 y2 EQ PA PB PR G1 SW
  go_wp2_with fail
  refine (sameShape_no (w := w1) HNE.out).mono ?_
  rintro e w2 ⟨rfl, b⟩
  have PR2 := hid (PR1.out.step b)
  have G3 := hid (below_step G2.out b)
  have r0 := PR2.out.at (i := 0) rfl
  have r1 := PR2.out.at (i := 1) rfl
  have r2 := PR2.out.at (i := 2) rfl
  have f0 := PR2.out.fz 0
  have f1 := PR2.out.fz 1
  have f2 := PR2.out.fz 2
  have FIN : Hid (GivesME w 2 (.returned (.tuple #[mzero, .int .i64 2])) (put3 w2 (w.heap.size + 1 + 1) (.int .i64 0) (.int .i64 0) (.slice none 0 0))) := ⟨rfl, below_put3 G3.out (by omega) _ _ _⟩
  have PF := hid (PR2.out.put3 (.int .i64 0) (.int .i64 0) (.slice none 0 0))
  clear b z0 z1 z2 t0 t1 t2 PA1 PB1 PR1 G2 G3
  go_wp2
  exact bodyPost_ret (mback1 Tryz.results61 PF.out _ (by rfl) (by rfl)) rfl FIN.out
set_option maxHeartbeats 1600000 in
set_option maxRecDepth 100000 in
theorem add_no {w : World} {va vb : Value} {r c r' c' : Nat} {xs ys : List Int} {k l : Nat} (ha : Mx w va r c xs k) (hb : Mx w vb r' c' ys l) (hne : r ≠ r' ∨ c ≠ c') :
    Calls Tryz.prog 31 #[va, vb] w (GivesME w 2) := by
  have A0 := hid ha
  have B0 := hid hb
  obtain ⟨aa, ca, rfl, hr, hc⟩ := ha.form
  obtain ⟨ab, cb, rfl, -, -⟩ := hb.form
  generalize r * c = N at *
  generalize r' * c' = N' at *
  obtain ⟨W0, hW⟩ : ∃ W0, ((w.alloc (matO r c (.slice aa N ca))).alloc (matO r' c' (.slice ab N' cb))).alloc mbox = W0 := ⟨_, rfl⟩
  obtain ⟨b0, sz0⟩ := alloc3 w (matO r c (.slice aa N ca)) (matO r' c' (.slice ab N' cb)) mbox
  rw [hW] at b0 sz0
  obtain ⟨pa, pb, pr⟩ := three_boxes (o1 := matc r c (.slice aa N ca)) (o2 := matc r' c' (.slice ab N' cb)) hW
  have HPL := hid (place_no (A0.out.now b0) (B0.out.now b0) hne)
  have x0 := pa.at (i := 0) rfl
  have x1 := pa.at (i := 1) rfl
  have x2 := pa.at (i := 2) rfl
  have y0 := pb.at (i := 0) rfl
  have y1 := pb.at (i := 1) rfl
  have y2 := pb.at (i := 2) rfl
  rw [← hW] at x0 x1 x2 y0 y1 y2
  have PR := hid pr
  have G0 := hid b0
  have EW := hid hW
  clear ha hb hne b0 sz0 hW pa pb pr A0 B0
  go_enter Tryz.func31, Tryz.ntmps31
  go_wp2_with fail
  rw [EW.out]
  refine HPL.out.mono ?_
  rintro e w2 ⟨rfl, b⟩
  have PR2 := hid (PR.out.step b)
  have G3 := hid (below_step G0.out b)
  have FIN : Hid (GivesME w 2 (.returned (.tuple #[mzero, .int .i64 2])) (put3 w2 (w.heap.size + 1 + 1) (.int .i64 0) (.int .i64 0) (.slice none 0 0))) := ⟨rfl, below_put3 G3.out (by omega) _ _ _⟩
  have PF := hid (PR2.out.put3 (.int .i64 0) (.int .i64 0) (.slice none 0 0))
  have r0 := PR2.out.at (i := 0) rfl
  have r1 := PR2.out.at (i := 1) rfl
  have r2 := PR2.out.at (i := 2) rfl
  have f0 := PR2.out.fz 0
  have f1 := PR2.out.fz 1
  have f2 := PR2.out.fz 2
  clear HPL b x0 x1 x2 y0 y1 y2 EW
  go_wp2
  exact bodyPost_ret (mback1 Tryz.results31 PF.out _ (by rfl) (by rfl)) rfl FIN.out
end Go.Proofs.YtlhbcdapinacgaaGreat

/- Sp13 -/
namespace Go.Proofs.YtlhbcdapinacgaaGreat
set_option linter.unusedVariables false

/-- A number that is not 0 times v is a combination of t lines, as far as n columns go. -/
def Sp (n t : Nat) (L : Nat → Nat → Int) (v : Nat → Int) : Prop := ∃ (N : Int) (e : Nat → Int), N ≠ 0 ∧ ∀ j, j < n → N * v j = su t fun a => e a * L a j
section
variable {n t : Nat} {L : Nat → Nat → Int} {u v : Nat → Int}
theorem Sp.zero (h : ∀ j, j < n → v j = 0) : Sp n t L v := ⟨1, fun _ => 0, by decide, fun j hj => by rw [h j hj, su_zero fun k _ => by simp]; simp⟩
theorem Sp.one {a : Nat} (ha : a < t) (h : ∀ j, j < n → v j = L a j) : Sp n t L v := ⟨1, dlz a, by decide, fun j hj => by
  rw [h j hj, su_one (i := a) ha fun k _ hk => by unfold dlz; rw [if_neg (Ne.symm hk)]; simp]
  unfold dlz; simp⟩
theorem Sp.add (hu : Sp n t L u) (hv : Sp n t L v) : Sp n t L fun j => u j + v j := by
  obtain ⟨N, e, hN, he⟩ := hu
  obtain ⟨M, f, hM, hf⟩ := hv
  refine ⟨N * M, fun a => M * e a + N * f a, Int.mul_ne_zero hN hM, fun j hj => ?_⟩
  have e1 : su t (fun a => (M * e a + N * f a) * L a j) = M * su t (fun a => e a * L a j) + N * su t (fun a => f a * L a j) := by
    rw [← su_mul, ← su_mul, ← su_add]
    exact su_congr fun k _ => by grind
  rw [e1, ← he j hj, ← hf j hj]
  grind
theorem Sp.mul (x : Int) (hu : Sp n t L u) : Sp n t L fun j => x * u j := by
  obtain ⟨N, e, hN, he⟩ := hu
  refine ⟨N, fun a => x * e a, hN, fun j hj => ?_⟩
  have e1 : su t (fun a => (x * e a) * L a j) = x * su t (fun a => e a * L a j) := by
    rw [← su_mul]
    exact su_congr fun k _ => by grind
  rw [e1, ← he j hj]
  grind
theorem Sp.div {x : Int} (hx : x ≠ 0) (hu : Sp n t L fun j => x * u j) : Sp n t L u := by
  obtain ⟨N, e, hN, he⟩ := hu
  exact ⟨N * x, e, Int.mul_ne_zero hN hx, fun j hj => by rw [← he j hj]; grind⟩
theorem Sp.congr (hu : Sp n t L u) (h : ∀ j, j < n → v j = u j) : Sp n t L v := by
  obtain ⟨N, e, hN, he⟩ := hu
  exact ⟨N, e, hN, fun j hj => by rw [h j hj]; exact he j hj⟩
theorem Sp.sum {K : Nat → Nat → Int} (x : Nat → Int) : ∀ {s : Nat}, (∀ a, a < s → Sp n t L (K a)) → Sp n t L fun j => su s fun a => x a * K a j
  | 0, _ => Sp.zero fun j _ => rfl
  | s + 1, h => (Sp.sum x (s := s) fun a ha => h a (by omega)).add ((h s (by omega)).mul (x s))
theorem Sp.trans {K : Nat → Nat → Int} {s : Nat} (hv : Sp n s K v) (h : ∀ a, a < s → Sp n t L (K a)) : Sp n t L v := by
  obtain ⟨N, e, hN, he⟩ := hv
  exact Sp.div hN ((Sp.sum e h).congr he)
theorem Sp.less {m : Nat} (hv : Sp n t L v) (h : m ≤ n) : Sp m t L v := by
  obtain ⟨N, e, hN, he⟩ := hv
  exact ⟨N, e, hN, fun j hj => he j (by omega)⟩
end
def prn : Nat → (Nat → Int) → Int
  | 0, _ => 1
  | n + 1, N => N 0 * prn n fun k => N (k + 1)
theorem prn_ne : ∀ {n : Nat} {N : Nat → Int}, (∀ k, k < n → N k ≠ 0) → prn n N ≠ 0
  | 0, _, _ => by show (1 : Int) ≠ 0; decide
  | n + 1, N, h => Int.mul_ne_zero (h 0 (by omega)) (prn_ne fun k hk => h (k + 1) (by omega))
theorem det_scale : ∀ (n : Nat) (N : Nat → Int) (A : Nat → Nat → Int), det n (fun a b => N a * A a b) = prn n N * det n A
  | 0, _, _ => rfl
  | n + 1, N, A => by
    rw [det_row, det_row]
    unfold exd
    show _ = (N 0 * prn n fun k => N (k + 1)) * _
    rw [← su_mul]
    refine su_congr fun j _ => ?_
    rw [det_scale n (fun k => N (k + 1)) (fun r c => A (r + 1) (skd j c))]
    grind
/-- More rows than lines that span them. -/
theorem Sp.det0 {n t s : Nat} {L X : Nat → Nat → Int} (h : ∀ a, a < s → Sp n t L (X a)) (hts : t < s) {M : Nat → Nat} (hM : ∀ b, b < s → M b < n) : det s (fun a b => X a (M b)) = 0 := by
  have hc : ∀ a, ∃ (N : Int) (e : Nat → Int), N ≠ 0 ∧ (a < s → ∀ j, j < n → N * X a j = su t fun k => e k * L k j) := fun a => by
    by_cases q : a < s
    · obtain ⟨N, e, h1, h2⟩ := h a q
      exact ⟨N, e, h1, fun _ => h2⟩
    · exact ⟨1, fun _ => 0, by decide, fun q' => absurd q' q⟩
  have hN := fun a => (hc a).choose_spec
  obtain ⟨N, hNd⟩ : ∃ N : Nat → Int, N = fun a => (hc a).choose := ⟨_, rfl⟩
  have hE : ∀ a, ∃ e : Nat → Int, N a ≠ 0 ∧ (a < s → ∀ j, j < n → N a * X a j = su t fun k => e k * L k j) := fun a => by
    rw [hNd]; exact hN a
  obtain ⟨E, hEd⟩ : ∃ E : Nat → Nat → Int, E = fun a => (hE a).choose := ⟨_, rfl⟩
  have hF : ∀ a, N a ≠ 0 ∧ (a < s → ∀ j, j < n → N a * X a j = su t fun k => E a k * L k j) := fun a => by
    rw [hEd]; exact (hE a).choose_spec
  have e1 : det s (fun a b => N a * X a (M b)) = det s (muz s (fun a k => if k < t then E a k else 0) fun k b => L k (M b)) := det_congr fun a b ha hb => by
    unfold muz
    rw [(hF a).2 ha _ (hM b hb), su_cut (r := t) (m := s) (by omega) (fun k h1 _ => by simp only []; rw [if_neg (by omega)]; simp)]
    exact su_congr fun k hk => by simp only []; rw [if_pos hk]
  have e2 : det s (fun a k => if k < t then E a k else 0) = 0 := by
    rw [← det_turn]
    exact (det_alt s).nul (i := t) hts fun j _ => by rw [if_neg (by omega)]
  rw [det_mul, e2, det_scale s N (fun a b => X a (M b))] at e1
  have e3 := prn_ne (n := s) (N := N) fun k _ => (hF k).1
  rcases Int.mul_eq_zero.1 (e1.trans (Int.zero_mul _)) with q | q
  · exact absurd q e3
  · exact q
theorem det_tri : ∀ {s : Nat} {X : Nat → Nat → Int}, (∀ a b, a < s → b < a → X a b = 0) → (∀ a, a < s → X a a ≠ 0) → det s X ≠ 0
  | 0, _, _, _ => by show (1 : Int) ≠ 0; decide
  | s + 1, X, h1, h2 => by
    show su (s + 1) _ ≠ 0
    rw [su_one (i := 0) (by omega) fun k hk h0 => by rw [h1 k 0 hk (by omega)]; simp]
    have e : (fun r c => X (skd 0 r) (c + 1)) = fun r c => X (r + 1) (c + 1) := by funext r c; simp [skd]
    rw [e]
    have := det_tri (s := s) (X := fun r c => X (r + 1) (c + 1)) (fun a b ha hb => h1 _ _ (by omega) (by omega)) (fun a ha => h2 _ (by omega))
    exact Int.mul_ne_zero (Int.mul_ne_zero (by decide) (h2 0 (by omega))) this
section
variable {A : Nat → Nat → Int} {n i : Nat} {rs cs : List Nat} {odd : Bool}
/-- The lines of the stairs. -/
abbrev lnm (A : Nat → Nat → Int) (rs cs : List Nat) : Nat → Nat → Int := fun a j => mi A (gd rs) (gd cs) a (gd rs a) j
theorem Stz.back (h : Stz A n i rs cs odd) {r t : Nat} : ∀ k, k ≤ t → t ≤ rs.length → Sp n t (lnm A rs cs) (fun j => mi A (gd rs) (gd cs) k r j) → Sp n t (lnm A rs cs) (A r)
  | 0, _, _, hs => hs.congr fun j _ => (mi_zero A _ _ r j).symm
  | k + 1, hk, ht, hs => by
    refine h.back k (by omega) ht (Sp.div (h.nz (k + 1) (by omega)) ?_)
    refine Sp.congr (u := fun j => dd A (gd rs) (gd cs) k * mi A (gd rs) (gd cs) (k + 1) r j + mi A (gd rs) (gd cs) k r (gd cs k) * lnm A rs cs k j) ((hs.mul _).add ((Sp.one (a := k) (by omega) fun j _ => rfl).mul _)) fun j _ => ?_
    have := mi_step A (gd rs) (gd cs) k r j (h.nz k (by omega))
    show _ = _ + mi A (gd rs) (gd cs) k r (gd cs k) * mi A (gd rs) (gd cs) k (gd rs k) j
    omega
/-- The rows up to a row are spanned by the lines up to it. -/
theorem Stz.rows (h : Stz A n i rs cs odd) {r t : Nat} (hr : r < i) (ht : t ≤ rs.length) (hb : ∀ a, a < rs.length → rs.getD a 0 ≤ r → a < t) : Sp n t (lnm A rs cs) (A r) := by
  by_cases q : r ∈ rs
  · obtain ⟨a, ha, e⟩ := List.getElem_of_mem q
    have e2 : rs.getD a 0 = r := by simp [ha, e]
    have hat := hb a ha (by omega)
    refine h.back a (by omega) ht (Sp.one hat fun j _ => ?_)
    show _ = mi A (gd rs) (gd cs) a (gd rs a) j
    rw [show gd rs a = r from e2]
  · obtain ⟨k, hk, h1, h2⟩ := h.drop r hr q
    have hkt : k ≤ t := by
      by_cases k0 : k = 0
      · omega
      · have := hb (k - 1) (by omega) (by have := h1 (k - 1) (by omega); omega)
        omega
    exact h.back k hkt ht (Sp.zero h2)
theorem Stz.all (h : Stz A n i rs cs odd) {r : Nat} (hr : r < i) : Sp n rs.length (lnm A rs cs) (A r) := h.rows hr (Nat.le_refl _) fun a ha _ => ha
theorem Stz.upper (h : Stz A n i rs cs odd) {t : Nat} {L : Nat → Nat → Int} (hs : ∀ r, r < i → Sp n t L (A r)) : rs.length ≤ t := by
  apply Classical.byContradiction
  intro q
  have := Sp.det0 (X := fun a => A (rs.getD a 0)) (M := gd cs) (n := n) (s := rs.length) (fun a ha => hs _ (h.lt _ (by simp [ha]))) (by omega) fun b hb => h.colt hb
  exact h.nz rs.length (Nat.le_refl _) this
theorem Stz.lower (h : Stz A n i rs cs odd) {s : Nat} {X : Nat → Nat → Int} {M : Nat → Nat} (hs : ∀ a, a < s → Sp n rs.length (lnm A rs cs) (X a)) (hM : ∀ b, b < s → M b < n) (hd : det s (fun a b => X a (M b)) ≠ 0) : s ≤ rs.length := by
  apply Classical.byContradiction
  intro q
  exact hd (Sp.det0 hs (by omega) hM)
theorem Stz.inj (h : Stz A n i rs cs odd) {a b : Nat} (hab : a < b) (hb : b < rs.length) : cs.getD a 0 ≠ cs.getD b 0 := fun e => by
  have h1 := mi_old A (gd rs) (gd cs) (gd rs b) hab
  have h2 := mi_dd A (gd rs) (gd cs) b
  rw [show gd cs a = gd cs b from e, h2] at h1
  exact h.nz (b + 1) (by omega) h1
end
/-- How many of a list are below k. -/
def blw (l : List Nat) (k : Nat) : Nat := (l.filter fun x => decide (x < k)).length
theorem blw_le (l : List Nat) (k : Nat) : blw l k ≤ l.length := List.length_filter_le _ _
theorem blw_up : ∀ {l : List Nat} {k : Nat}, l.Pairwise (· < ·) → ∀ a, a < l.length → (a < blw l k ↔ l.getD a 0 < k)
  | [], _, _, a, ha => by simp at ha
  | x :: l, k, h, a, ha => by
    have h' := List.pairwise_cons.1 h
    by_cases q : x < k
    · have e : blw (x :: l) k = blw l k + 1 := by simp [blw, q]
      cases a with
      | zero => simp [e, q]
      | succ a =>
        have := blw_up (k := k) h'.2 a (by simpa using ha)
        rw [e]
        simp only [List.getD_cons_succ]
        omega
    · have e0 : blw l k = 0 := by
        unfold blw
        rw [List.length_eq_zero_iff, List.filter_eq_nil_iff]
        intro y hy
        have := h'.1 y hy
        simp; omega
      have e : blw (x :: l) k = 0 := by
        have : blw (x :: l) k = blw l k := by simp [blw, q]
        omega
      cases a with
      | zero => simp [e]; omega
      | succ a =>
        have h2 := h'.1 ((x :: l).getD (a + 1) 0) (by
          have : a < l.length := by simpa using ha
          simp [this])
        rw [e]
        omega
section
variable {A B : Nat → Nat → Int} {n i k : Nat} {rs cs rs' cs' : List Nat} {odd odd' : Bool}
/-- The first k rows. -/
theorem Stz.first (h : Stz A n i rs cs odd) (hk : k ≤ i) (h' : Stz B n k rs' cs' odd') (hB : ∀ a b, a < k → b < n → B a b = A a b) : rs'.length = blw rs k := by
  have ht : blw rs k ≤ rs.length := blw_le _ _
  apply Nat.le_antisymm
  · refine h'.upper (L := lnm A rs cs) fun r hr => Sp.congr (h.rows (t := blw rs k) (show r < i by omega) ht fun a ha hle => ?_) fun j hj => hB r j hr hj
    exact (blw_up h.up a ha).2 (by omega)
  · refine h'.lower (X := fun a => A (rs.getD a 0)) (M := gd cs) (fun a ha => ?_) (fun b hb => h.colt (by omega)) (h.nz _ ht)
    have hr := (blw_up h.up a (by omega)).1 ha
    exact (h'.all hr).congr fun j hj => (hB _ j hr hj).symm
/-- The first k columns. -/
theorem left13 (h : Stz A n i rs cs odd) (hk : k ≤ n) (h' : Stz B k i rs' cs' odd') (hB : ∀ a b, a < i → b < k → B a b = A a b) : rs'.length = blw (srt cs) k := by
  have hl : (srt cs).length = rs.length := by rw [h.srt.2.1, h.len]
  have ht : blw (srt cs) k ≤ rs.length := by rw [← hl]; exact blw_le _ _
  have hσ : ∀ y, ∃ a, y < rs.length → a < rs.length ∧ cs.getD a 0 = (srt cs).getD y 0 := fun y => by
    by_cases q : y < rs.length
    · have hm : (srt cs).getD y 0 ∈ srt cs := by simp [show y < (srt cs).length by omega]
      obtain ⟨a, ha, e⟩ := List.getElem_of_mem ((h.srt.2.2 _).1 hm)
      exact ⟨a, fun _ => ⟨by rw [← h.len]; exact ha, by rw [← e]; simp [ha]⟩⟩
    · exact ⟨0, fun q' => absurd q' q⟩
  obtain ⟨σ, hσd⟩ : ∃ σ : Nat → Nat, σ = fun y => (hσ y).choose := ⟨_, rfl⟩
  have hs : ∀ y, y < rs.length → σ y < rs.length ∧ cs.getD (σ y) 0 = (srt cs).getD y 0 := fun y hy => by
    rw [hσd]; exact (hσ y).choose_spec hy
  clear hσd hσ
  apply Nat.le_antisymm
  · refine h'.upper (L := fun y => lnm A rs cs (σ y)) fun r hr => ?_
    refine Sp.trans (K := lnm A rs cs) (s := rs.length) (((h.all hr).less hk).congr fun j hj => hB r j hr hj) fun a ha => ?_
    by_cases q : cs.getD a 0 < k
    · have hm : cs.getD a 0 ∈ srt cs := (h.srt.2.2 _).2 (by simp [show a < cs.length by rw [h.len]; exact ha])
      obtain ⟨y, hy, e⟩ := List.getElem_of_mem hm
      have e2 : (srt cs).getD y 0 = cs.getD a 0 := by rw [← e]; simp [hy]
      have hy' : y < rs.length := by omega
      have hyt : y < blw (srt cs) k := (blw_up h.srt.1 y hy).2 (by omega)
      obtain ⟨g1, g2⟩ := hs y hy'
      have ea : σ y = a := by
        rcases Nat.lt_trichotomy (σ y) a with c | c | c
        · exact absurd (g2.trans e2) (h.inj c ha)
        · exact c
        · exact absurd (g2.trans e2).symm (h.inj c g1)
      refine Sp.one hyt fun j _ => ?_
      show _ = lnm A rs cs (σ y) j
      rw [ea]
    · exact Sp.zero fun j hj => h.low a j ha (by omega)
  · refine h'.lower (X := fun y => lnm A rs cs (σ y)) (M := fun y => (srt cs).getD y 0) (fun y hy => ?_) (fun y hy => (blw_up h.srt.1 y (by omega)).1 hy) ?_
    · obtain ⟨g1, g2⟩ := hs y (by omega)
      obtain ⟨e, -, he⟩ := mi_lin A (gd rs) (gd cs) (σ y) (gd rs (σ y))
      refine Sp.congr (Sp.sum e (K := fun a => A (bor (σ y) (gd rs) (gd rs (σ y)) a)) (s := σ y + 1) fun a ha => ?_) fun j _ => he j
      have hr : bor (σ y) (gd rs) (gd rs (σ y)) a < i := by
        unfold bor
        split
        · exact h.lt _ (by simp [show a < rs.length by omega])
        · exact h.lt _ (by simp [g1])
      exact (h'.all hr).congr fun j hj => (hB _ j hr hj).symm
    · refine det_tri (fun a b ha hb => ?_) fun a ha => ?_
      · obtain ⟨g1, g2⟩ := hs a (by omega)
        exact h.low (σ a) _ g1 (by rw [g2]; exact up_lt h.srt.1 hb (by omega))
      · obtain ⟨g1, g2⟩ := hs a (by omega)
        have := mi_dd A (gd rs) (gd cs) (σ a)
        show mi A (gd rs) (gd cs) (σ a) (gd rs (σ a)) ((srt cs).getD a 0) ≠ 0
        rw [← g2]
        show mi A (gd rs) (gd cs) (σ a) (gd rs (σ a)) (gd cs (σ a)) ≠ 0
        rw [this]
        exact h.nz _ (by omega)
end
end Go.Proofs.YtlhbcdapinacgaaGreat

/- Nl13 -/
namespace Go.Proofs.YtlhbcdapinacgaaGreat
set_option linter.unusedVariables false

section
variable {A B C T P : Nat → Nat → Int} {n i q p : Nat} {rs cs rs' cs' rs2 cs2 : List Nat} {odd odd' odd2 : Bool}
theorem Stz.turn_le (h : Stz A n i rs cs odd) (h' : Stz T i n rs' cs' odd') (hT : ∀ a b, a < n → b < i → T a b = A b a) : rs.length ≤ rs'.length := by
  refine h'.lower (X := fun b => T (cs.getD b 0)) (M := gd rs) (fun b hb => h'.all (h.colt hb)) (fun a ha => h.lt _ (by simp [ha])) ?_
  have h1 := h.nz rs.length (Nat.le_refl _)
  unfold dd at h1
  rw [← det_turn] at h1
  intro e
  refine h1 ?_
  rw [← e]
  refine det_congr fun a b ha hb => ?_
  exact (hT _ _ (h.colt ha) (h.lt _ (by simp [hb]))).symm
theorem Stz.turned (h : Stz A n i rs cs odd) (h' : Stz T i n rs' cs' odd') (hT : ∀ a b, a < n → b < i → T a b = A b a) : rs'.length = rs.length :=
  Nat.le_antisymm (h'.turn_le h fun a b ha hb => (hT b a hb ha).symm) (h.turn_le h' hT)
theorem Stz.wide (h : Stz A n i rs cs odd) : rs.length ≤ n := by
  have : (Proofs.YtlhbcdapinacgaaGreat.srt cs).length ≤ (List.range n).length := List.Nodup.length_le_of_subset (h.srt.1.imp fun hab => Nat.ne_of_lt hab) fun c hc => by simpa using h.cl c ((h.srt.2.2 c).1 hc)
  rw [h.srt.2.1, h.len] at this
  simpa using this
theorem Stz.tall (h : Stz A n i rs cs odd) : rs.length ≤ i := by
  have : rs.length ≤ (List.range i).length := List.Nodup.length_le_of_subset (h.up.imp fun hab => Nat.ne_of_lt hab) fun r hr => by simpa using h.lt r hr
  simpa using this
theorem Stz.full (h : Stz A n n rs cs odd) : det n A ≠ 0 ↔ rs.length = n := by
  have hl := h.tall
  rw [h.lead (Nat.le_refl _)]
  by_cases c : rs.length < n
  · rw [if_pos (.inl c)]
    exact ⟨fun x => absurd rfl x, fun x => by omega⟩
  · rw [if_neg (by
      rintro (x | ⟨y, hy, hn⟩)
      · exact c x
      · have := h.cl y hy; omega)]
    exact ⟨fun _ => by omega, fun _ => h.dne⟩
/-- Two families of lines, one behind the other. -/
def cat13 (t : Nat) (L K : Nat → Nat → Int) : Nat → Nat → Int := fun a => if a < t then L a else K (a - t)
theorem cat_one {m t s : Nat} {L K : Nat → Nat → Int} {v : Nat → Int} (h : Sp m t L v) : Sp m (t + s) (cat13 t L K) v :=
  h.trans fun a ha => Sp.one (a := a) (by omega) fun j _ => by unfold cat13; rw [if_pos ha]
theorem cat_two {m t s : Nat} {L K : Nat → Nat → Int} {v : Nat → Int} (h : Sp m s K v) : Sp m (t + s) (cat13 t L K) v :=
  h.trans fun a ha => Sp.one (a := t + a) (by omega) fun j _ => by unfold cat13; rw [if_neg (by omega), show t + a - t = a by omega]
theorem Stz.sum_le (x y : Int) (h : Stz A n i rs cs odd) (h' : Stz B n i rs' cs' odd') (h2 : Stz C n i rs2 cs2 odd2) (hC : ∀ a b, a < i → b < n → C a b = x * A a b + y * B a b) : rs2.length ≤ rs.length + rs'.length :=
  h2.upper (L := cat13 rs.length (lnm A rs cs) (lnm B rs' cs')) fun r hr => Sp.congr (((cat_one (h.all hr)).mul x).add ((cat_two (h'.all hr)).mul y)) fun j hj => hC r j hr hj
theorem Stz.mul_le1 (h : Stz A n i rs cs odd) (h2 : Stz P q i rs2 cs2 odd2) (hP : ∀ a b, a < i → b < q → P a b = su n fun k => A a k * B k b) : rs2.length ≤ rs.length := by
  refine h2.upper (L := fun a j => su n fun k => lnm A rs cs a k * B k j) fun r hr => ?_
  obtain ⟨N, e, hN, he⟩ := h.all hr
  refine ⟨N, e, hN, fun j hj => ?_⟩
  rw [hP r j hr hj, ← su_mul]
  have e1 : su n (fun k => N * (A r k * B k j)) = su n fun k => su rs.length fun a => e a * (lnm A rs cs a k * B k j) := su_congr fun k hk => by
    have := he k hk
    have e2 : su rs.length (fun a => e a * (lnm A rs cs a k * B k j)) = su rs.length (fun a => e a * lnm A rs cs a k) * B k j := by
      rw [← su_mulr]
      exact su_congr fun a _ => by grind
    rw [e2, ← this]
    grind
  rw [e1, su_swap]
  exact su_congr fun a _ => by rw [su_mul]
theorem Stz.mul_le2 (h' : Stz B q n rs' cs' odd') (h2 : Stz P q i rs2 cs2 odd2) (hP : ∀ a b, a < i → b < q → P a b = su n fun k => A a k * B k b) : rs2.length ≤ rs'.length :=
  h2.upper (L := lnm B rs' cs') fun r hr => Sp.congr (Sp.sum (A r) (K := B) (s := n) fun k hk => h'.all hk) fun j hj => hP r j hr hj
theorem det_block : ∀ (p q : Nat) (X : Nat → Nat → Int), (∀ a b, a < p → p ≤ b → b < p + q → X a b = 0) → det (p + q) X = det p X * det q (fun a b => X (p + a) (p + b))
  | 0, q, X, _ => by
    have e : (fun a b => X (0 + a) (0 + b)) = X := by funext a b; simp
    rw [e, Nat.zero_add]
    show _ = 1 * _
    omega
  | p + 1, q, X, h => by
    rw [show p + 1 + q = (p + q) + 1 by omega, det_row, det_row]
    unfold exd
    rw [su_cut (r := p + 1) (m := p + q + 1) (by omega) (fun k h1 h2 => by rw [h 0 k (by omega) h1 (by omega)]; simp), ← su_mulr]
    refine su_congr fun j hj => ?_
    rw [det_block p q (fun r c => X (r + 1) (skd j c)) (fun a b ha hb hb2 => by
      have : skd j b = b + 1 := by unfold skd; rw [if_neg (by omega)]
      rw [this]
      exact h _ _ (by omega) (by omega) (by omega))]
    have e : det q (fun a b => X (p + a + 1) (skd j (p + b))) = det q (fun a b => X (p + 1 + a) (p + 1 + b)) := det_congr fun a b _ _ => by
      have : skd j (p + b) = p + b + 1 := by unfold skd; rw [if_neg (by omega)]
      rw [this, show p + a + 1 = p + 1 + a by omega, show p + b + 1 = p + 1 + b by omega]
    rw [e]
    grind
/-- Sylvester. -/
theorem Stz.sylv (h : Stz A n i rs cs odd) (h' : Stz B q n rs' cs' odd') (h2 : Stz P q i rs2 cs2 odd2) (hP : ∀ a b, a < i → b < q → P a b = su n fun k => A a k * B k b) : rs.length + rs'.length ≤ n + rs2.length := by
  apply Classical.byContradiction
  intro hc
  obtain ⟨U, hU⟩ : ∃ U : Nat → Nat → Int, U = fun k j => if j < n then dlz k j else B k (j - n) := ⟨_, rfl⟩
  obtain ⟨V, hV⟩ : ∃ V : Nat → Nat → Int, V = fun b j => if j < n then 0 else lnm P rs2 cs2 b (j - n) := ⟨_, rfl⟩
  obtain ⟨X, hX⟩ : ∃ X : Nat → Nat → Int, X = fun x j => if x < rs.length then (if j < n then A (rs.getD x 0) j else 0) else U (rs'.getD (x - rs.length) 0) j := ⟨_, rfl⟩
  obtain ⟨M, hM⟩ : ∃ M : Nat → Nat, M = fun x => if x < rs.length then cs.getD x 0 else n + cs'.getD (x - rs.length) 0 := ⟨_, rfl⟩
  have hXa : ∀ x j, x < rs.length → X x j = if j < n then A (rs.getD x 0) j else 0 := fun x j c => by rw [hX]; simp only []; rw [if_pos c]
  have hXb : ∀ x j, ¬ x < rs.length → X x j = U (rs'.getD (x - rs.length) 0) j := fun x j c => by rw [hX]; simp only []; rw [if_neg c]
  have hMa : ∀ x, x < rs.length → M x = cs.getD x 0 := fun x c => by rw [hM]; simp only []; rw [if_pos c]
  have hMb : ∀ x, ¬ x < rs.length → M x = n + cs'.getD (x - rs.length) 0 := fun x c => by rw [hM]; simp only []; rw [if_neg c]
  have hUa : ∀ k j, j < n → U k j = dlz k j := fun k j c => by rw [hU]; simp only []; rw [if_pos c]
  have hUb : ∀ k j, ¬ j < n → U k j = B k (j - n) := fun k j c => by rw [hU]; simp only []; rw [if_neg c]
  have hVa : ∀ k j, j < n → V k j = 0 := fun k j c => by rw [hV]; simp only []; rw [if_pos c]
  have hVb : ∀ k j, ¬ j < n → V k j = lnm P rs2 cs2 k (j - n) := fun k j c => by rw [hV]; simp only []; rw [if_neg c]
  clear hX hM hU hV
  have hs : ∀ x, x < rs.length + rs'.length → Sp (n + q) (n + rs2.length) (cat13 n U V) (X x) := fun x hx => by
    by_cases c : x < rs.length
    · have hr : rs.getD x 0 < i := h.lt _ (by simp [c])
      have s1 : Sp (n + q) (n + rs2.length) (cat13 n U V) fun j => su n fun k => A (rs.getD x 0) k * U k j := cat_one ⟨1, A (rs.getD x 0), by decide, fun j _ => by rw [Int.one_mul]⟩
      have s2 : Sp (n + q) rs2.length V fun j => if j < n then 0 else P (rs.getD x 0) (j - n) := by
        obtain ⟨N, e, hN, he⟩ := h2.all hr
        refine ⟨N, e, hN, fun j hj => ?_⟩
        simp only []
        by_cases c2 : j < n
        · rw [if_pos c2, su_zero fun k _ => by rw [hVa k j c2]; simp]; simp
        · rw [if_neg c2, he (j - n) (by omega)]
          exact su_congr fun k _ => by rw [hVb k j c2]
      refine Sp.congr (s1.add ((cat_two (t := n) (L := U) s2).mul (-1))) fun j hj => ?_
      rw [hXa x j c]
      by_cases c2 : j < n
      · rw [if_pos c2, if_pos c2, su_one (i := j) c2 fun k hk hne => by rw [hUa k j c2]; unfold dlz; rw [if_neg hne]; simp]
        rw [hUa j j c2]
        unfold dlz
        simp
      · rw [if_neg c2, if_neg c2, hP _ _ hr (by omega)]
        have e3 : su n (fun k => A (rs.getD x 0) k * U k j) = su n fun k => A (rs.getD x 0) k * B k (j - n) := su_congr fun k _ => by rw [hUb k j c2]
        rw [e3]
        omega
    · have hy : x - rs.length < rs'.length := by omega
      have hr : rs'.getD (x - rs.length) 0 < n := h'.lt _ (by simp [hy])
      exact cat_one (Sp.one hr fun j _ => hXb x j c)
  have hm : ∀ x, x < rs.length + rs'.length → M x < n + q := fun x hx => by
    by_cases c : x < rs.length
    · rw [hMa x c]; have := h.colt c; omega
    · rw [hMb x c]; have := h'.colt (k := x - rs.length) (by omega); omega
  have hd := Sp.det0 hs (by omega) hm
  rw [det_block rs.length rs'.length (fun a b => X a (M b)) (fun a b ha hb hb2 => by
    rw [hXa a _ ha, hMb b (by omega), if_neg (by omega)])] at hd
  have e1 : det rs.length (fun a b => X a (M b)) = dd A (gd rs) (gd cs) rs.length := det_congr fun a b ha hb => by
    rw [hXa a _ ha, hMa b hb, if_pos (h.colt hb)]
  have e2 : det rs'.length (fun a b => X (rs.length + a) (M (rs.length + b))) = dd B (gd rs') (gd cs') rs'.length := det_congr fun a b ha hb => by
    rw [hXb _ _ (show ¬ rs.length + a < rs.length by omega), hMb _ (show ¬ rs.length + b < rs.length by omega), hUb _ _ (by omega)]
    rw [show rs.length + a - rs.length = a by omega, show rs.length + b - rs.length = b by omega, show n + cs'.getD b 0 - n = cs'.getD b 0 by omega]
  rw [e1, e2] at hd
  exact Int.mul_ne_zero (h.nz _ (Nat.le_refl _)) (h'.nz _ (Nat.le_refl _)) hd
end
end Go.Proofs.YtlhbcdapinacgaaGreat

/- Nu13 -/
namespace Go.Proofs.YtlhbcdapinacgaaGreat
open Go.RowKit
set_option linter.unusedVariables false

theorem turn_en {r c : Nat} {xs : List Int} : ∀ a b, a < c → b < r → en r (turnL9 r c xs) a b = en c xs b a := fun a b ha hb => turn_at hb ha
theorem sumN_su13 : ∀ (m : Nat) (f : Nat → Int), sumN m f = su m f
  | 0, f => rfl
  | m + 1, f => by
    have := sumN_su13 m f
    simp only [su]
    rw [← this]
    exact sumN_succ m f
theorem prod_en {r m c : Nat} {xs ys : List Int} (hx : xs.length = r * m) : ∀ a b, a < r → b < c → en c (prodL r m c xs ys) a b = su m fun k => en m xs a k * en c ys k b := fun a b ha hb => by
  show (prodL r m c xs ys).getD (a * c + b) 0 = su m _
  rw [prod_at hx ha hb, sumN_su13]
  rfl
theorem add_en {r c : Nat} {xs ys : List Int} : ∀ a b, a < r → b < c → en c (addL (r * c) xs ys) a b = en c xs a b + en c ys a b := fun a b ha hb => by
  unfold en
  refine add_at ?_
  have := Nat.mul_le_mul_right c (show a + 1 ≤ r from ha)
  rw [Nat.succ_mul] at this
  omega
def DtC (W wx : World) (s1 s2 : Value) (r c : Nat) (xs : List Int) : Prop :=
  ∃ bd nd ad ld cd, ∃ E : Int, s1 = .pointer (some ⟨bd, 0, none⟩) ∧ s2 = .int .i64 E ∧ Below W.heap.size W wx ∧ Duo wx bd (.bool nd) (.slice ad ld cd) ∧ (r = c → E = 0 ∧ ∃ k, Zm 0 wx (.agg #[.bool nd, .slice ad ld cd]) (det r (en c xs)) k)
set_option maxHeartbeats 6400000 in
set_option maxRecDepth 100000 in
theorem bareissNull_any {w : World} {va vb : Value} {ra ca rb cb : Int} {la lb : Nat} {xs ys : List Int} (ha : Raw w va ra ca la xs) (hb : Raw w vb rb cb lb ys) :
    Calls Tryz.prog 7 #[va, vb] w (Tru w) := by
  have RA := hid ha
  have RB := hid hb
  obtain ⟨aa, qa, -, rfl, -, -, -, hla⟩ := ha
  obtain ⟨ab, qb, -, rfl, -, -, -, hlb⟩ := hb
  obtain ⟨W0, hV⟩ : ∃ W0, (w.alloc (.cells #[.int .i64 ra, .int .i64 ca, .slice aa la qa] 24)).alloc (.cells #[.int .i64 rb, .int .i64 cb, .slice ab lb qb] 24) = W0 := ⟨_, rfl⟩
  obtain ⟨b0, sz0⟩ := alloc2 w (.cells #[.int .i64 ra, .int .i64 ca, .slice aa la qa] 24) (.cells #[.int .i64 rb, .int .i64 cb, .slice ab lb qb] 24)
  rw [hV] at b0 sz0
  have PA : Hid (Cel W0 w.heap.size 24 [.int .i64 ra, .int .i64 ca, .slice aa la qa]) := by
    unfold Hid; rw [← hV]
    exact (Cel.new w 24 [.int .i64 ra, .int .i64 ca, .slice aa la qa]).step ((Below.refl _ _).alloc (Nat.le_refl _) _)
  have PB : Hid (Cel W0 (w.heap.size + 1) 24 [.int .i64 rb, .int .i64 cb, .slice ab lb qb]) := by
    unfold Hid; rw [← hV]
    have := Cel.new (w.alloc (.cells #[.int .i64 ra, .int .i64 ca, .slice aa la qa] 24)) 24 [.int .i64 rb, .int .i64 cb, .slice ab lb qb]
    simpa using this
  replace RA := hid (RA.out.now b0)
  replace RB := hid (RB.out.now b0)
  have G := hid b0
  clear b0 sz0
  have x0 := PA.out.at (i := 0) rfl
  have x1 := PA.out.at (i := 1) rfl
  have x2 := PA.out.at (i := 2) rfl
  rw [← hV] at x0 x1 x2
  have EV := hid hV
  clear hV
  go_enter Tryz.func7, Tryz.ntmps7
  go_wp2_with fail
  rw [EV.out]
  clear EV x0 x1 x2
  by_cases hsa : Snd ra ca la
  · obtain ⟨r, c, rfl, rfl⟩ := snd13 hsa
    obtain ⟨ma, -⟩ := RA.out.mx13 hsa
    have MA := hid ma
    clear ma hsa
    have hr64 : r ≤ 64 := by obtain ⟨_, _, _, _, _, _, h, _⟩ := MA.out; exact h
    have hc64 : c ≤ 64 := by obtain ⟨_, _, _, _, _, _, _, h⟩ := MA.out; exact h
    clear RA
    by_cases hsb : Snd rb cb lb
    · obtain ⟨r2, c2, rfl, rfl⟩ := snd13 hsb
      obtain ⟨mb, -⟩ := RB.out.mx13 hsb
      have MB := hid mb
      clear mb hsb
      have hr264 : r2 ≤ 64 := by obtain ⟨_, _, _, _, _, _, h, _⟩ := MB.out; exact h
      have hc264 : c2 ≤ 64 := by obtain ⟨_, _, _, _, _, _, _, h⟩ := MB.out; exact h
      clear RB
      refine (rank_yes MA.out (by decide)).mono ?_
      rintro e w1 ⟨rsa, csa, odda, hz, rfl, b⟩
      replace PA := hid (PA.out.step b)
      replace PB := hid (PB.out.step b)
      replace MA := hid (MA.out.now b)
      replace MB := hid (MB.out.now b)
      replace G := hid (below_step G.out b)
      have HZa := hid hz
      obtain ⟨rl, hrl⟩ : ∃ rl, rsa.length = rl := ⟨_, rfl⟩
      rw [hrl]
      have ERa := hid hrl
      have HTa := hid hz.tall
      have HWa := hid hz.wide
      rw [hrl] at HTa HWa
      clear hz hrl
      clear b
      have cB0 := PB.out.at (i := 0) rfl
      have cB1 := PB.out.at (i := 1) rfl
      have cB2 := PB.out.at (i := 2) rfl
      go_wp2_with fail
      clear cB0 cB1 cB2
      refine (rank_yes MB.out (by decide)).mono ?_
      rintro e w2 ⟨rsb, csb, oddb, hz, rfl, b⟩
      replace PA := hid (PA.out.step b)
      replace PB := hid (PB.out.step b)
      replace MA := hid (MA.out.now b)
      replace MB := hid (MB.out.now b)
      replace G := hid (below_step G.out b)
      have HZb := hid hz
      obtain ⟨rm, hrl⟩ : ∃ rm, rsb.length = rm := ⟨_, rfl⟩
      rw [hrl]
      have ERb := hid hrl
      have HTb := hid hz.tall
      have HWb := hid hz.wide
      rw [hrl] at HTb HWb
      clear hz hrl
      clear b
      go_wp2_with fail
      refine (awake13 _).mono ?_
      rintro e w3 ⟨rfl, b⟩
      replace PA := hid (PA.out.step b)
      replace PB := hid (PB.out.step b)
      replace MA := hid (MA.out.now b)
      replace MB := hid (MB.out.now b)
      replace G := hid (below_step G.out b)
      clear b
      have cA0 := PA.out.at (i := 0) rfl
      have cA1 := PA.out.at (i := 1) rfl
      have cA2 := PA.out.at (i := 2) rfl
      go_wp2_with fail
      clear cA0 cA1 cA2
      refine (check_yes MA.out).mono ?_
      rintro e w4 ⟨rfl, b⟩
      replace PA := hid (PA.out.step b)
      replace PB := hid (PB.out.step b)
      replace MA := hid (MA.out.now b)
      replace MB := hid (MB.out.now b)
      replace G := hid (below_step G.out b)
      clear b
      have cB0 := PB.out.at (i := 0) rfl
      have cB1 := PB.out.at (i := 1) rfl
      have cB2 := PB.out.at (i := 2) rfl
      go_wp2_with fail
      clear cB0 cB1 cB2
      refine (check_yes MB.out).mono ?_
      rintro e w5 ⟨rfl, b⟩
      replace PA := hid (PA.out.step b)
      replace PB := hid (PB.out.step b)
      replace MA := hid (MA.out.now b)
      replace MB := hid (MB.out.now b)
      replace G := hid (below_step G.out b)
      clear b
      have cA0 := PA.out.at (i := 0) rfl
      have cA1 := PA.out.at (i := 1) rfl
      have cA2 := PA.out.at (i := 2) rfl
      go_wp2_with fail
      clear cA0 cA1 cA2
      have hg0 : ¬ (rl : Int) < 0 := by omega
      have hg1 : ¬ (r : Int) < (rl : Int) := by have := HTa.out; omega
      have hg2 : ¬ (c : Int) < (rl : Int) := by have := HWa.out; omega
      have hl64 : rl ≤ 64 := by have := HTa.out; omega
      have hm64 : rm ≤ 64 := by have := HTb.out; omega
      have HXL : Hid (xs.length = r * c) := by obtain ⟨_, _, _, _, _, h, _⟩ := MA.out; exact h
      refine (turn_yes MA.out).mono ?_
      rintro e w6 ⟨vt, rfl, mt, b⟩
      replace PA := hid (PA.out.step b)
      replace PB := hid (PB.out.step b)
      replace MA := hid (MA.out.now b)
      replace MB := hid (MB.out.now b)
      replace G := hid (below_step G.out b)
      obtain ⟨at1, qt, rfl, -, -⟩ := mt.mx.form
      have MT := hid mt.mx
      clear mt
      clear b
      obtain ⟨lt1, hlt⟩ : ∃ lt1, c * r = lt1 := ⟨_, rfl⟩
      rw [hlt] at MT ⊢
      clear hlt
      obtain ⟨V7, hV⟩ : ∃ V7, w6.alloc (.cells #[.int .i64 ((c : Int)), .int .i64 ((r : Int)), .slice at1 lt1 qt] 24) = V7 := ⟨_, rfl⟩
      obtain ⟨b, sz7⟩ := alo1 w6 (.cells #[.int .i64 ((c : Int)), .int .i64 ((r : Int)), .slice at1 lt1 qt] 24)
      rw [hV] at b sz7
      replace PA := hid (PA.out.step b)
      replace PB := hid (PB.out.step b)
      replace MA := hid (MA.out.now b)
      replace MB := hid (MB.out.now b)
      replace MT := hid (MT.out.now b)
      replace G := hid (below_step G.out b)
      clear b sz7
      have PT : Hid (Cel V7 w6.heap.size 24 [.int .i64 ((c : Int)), .int .i64 ((r : Int)), .slice at1 lt1 qt]) := by unfold Hid; rw [← hV]; exact Cel.new w6 _ _
      have cT0 := PT.out.at (i := 0) rfl
      have cT1 := PT.out.at (i := 1) rfl
      have cT2 := PT.out.at (i := 2) rfl
      rw [← hV] at cT0 cT1 cT2
      have EV : Hid (w6.alloc (.cells #[.int .i64 ((c : Int)), .int .i64 ((r : Int)), .slice at1 lt1 qt] 24) = V7) := hV
      clear hV
      go_wp2_with fail
      rw [EV.out]
      clear EV
      clear cT0 cT1 cT2
      refine (rank_yes MT.out (by decide)).mono ?_
      rintro e w8 ⟨rst, cst, oddt, hz, rfl, b⟩
      replace PA := hid (PA.out.step b)
      replace PB := hid (PB.out.step b)
      replace MA := hid (MA.out.now b)
      replace MB := hid (MB.out.now b)
      replace MT := hid (MT.out.now b)
      replace PT := hid (PT.out.step b)
      replace G := hid (below_step G.out b)
      have e2 : rst.length = rl := (HZa.out.turned hz turn_en).trans ERa.out
      rw [e2]
      clear hz e2
      clear b
      clear MT
      clear PT
      have cA0 := PA.out.at (i := 0) rfl
      have cA1 := PA.out.at (i := 1) rfl
      go_upto_region 11 with fail
      clear cA0 cA1 hg0 hg1 hg2
      go_cut [13, 14] from 32 (fun s1 s2 wx => DtC w8 wx s1 s2 r c xs)
      case first =>
        have cA0 := PA.out.at (i := 0) rfl
        have cA1 := PA.out.at (i := 1) rfl
        have cA2 := PA.out.at (i := 2) rfl
        have HDT : Hid (Calls Tryz.prog 30 #[.agg #[.int .i64 (r : Int), .int .i64 (c : Int), .slice aa la qa]] w8 fun e w' => ∃ nd ad ld cd, ∃ E : Int, e = .returned (.tuple #[.agg #[.bool nd, .slice ad ld cd], .int .i64 E]) ∧ Below w8.heap.size w8 w' ∧ (r = c → E = 0 ∧ ∃ k, Zm 0 w' (.agg #[.bool nd, .slice ad ld cd]) (det r (en c xs)) k)) := by
          by_cases hrc : r = c
          · subst hrc
            refine (det_sq MA.out (by decide)).mono ?_
            rintro e w' ⟨rq, rfl, m, b⟩
            obtain ⟨nd, xd, ad, cd, rfl⟩ := m.parts
            exact ⟨_, _, _, _, _, rfl, b, fun _ => ⟨rfl, _, m.mono (Nat.zero_le _)⟩⟩
          · refine (det_fit MA.out hrc).mono ?_
            rintro e w' ⟨rq, rfl, m, b⟩
            obtain ⟨nd, xd, ad, cd, rfl⟩ := m.parts
            exact ⟨_, _, _, _, _, rfl, b, fun q => absurd q hrc⟩
        go_wp2_with fail
        clear cA0 cA1 cA2
        refine HDT.out.mono ?_
        rintro e w30 ⟨nd, ad, ld, cd, E, rfl, b, hE⟩
        obtain ⟨V30, hV⟩ : ∃ V30, w30.alloc (duo (.bool nd) (.slice ad ld cd)) = V30 := ⟨_, rfl⟩
        obtain ⟨b2, sz⟩ := alo1 w30 (duo (.bool nd) (.slice ad ld cd))
        rw [hV] at b2 sz
        have FP : Hid (DtC w8 V30 (.pointer (some ⟨w30.heap.size, 0, none⟩)) (.int .i64 E) r c xs) := ⟨_, nd, ad, ld, cd, E, rfl, rfl, below_step b b2, by rw [← hV]; exact Duo.new w30 _ _, fun q => ⟨(hE q).1, (hE q).2.imp fun k m => m.now b2⟩⟩
        have EV := hid hV
        clear HDT b b2 sz hE hV
        go_wp2_with fail
        rw [EV.out]
        go_meet
        exact FP.out
      case rest =>
      rename World => Wc
      obtain ⟨bd, nd, ad, ld, cd, E, rfl, rfl, b, hdd, hE⟩ := hcut
      have Dd := hid hdd
      have HE := hid hE
      replace PA := hid (PA.out.step b)
      replace PB := hid (PB.out.step b)
      replace MA := hid (MA.out.now b)
      replace MB := hid (MB.out.now b)
      replace G := hid (below_step G.out b)
      clear b hdd hE
      go_upto_region 12 with fail
      go_cut [118] from 32 (fun s1 wx => s1 = .bool false ∧ Below Wc.heap.size Wc wx)
      case first =>
        have cA0 := PA.out.at (i := 0) rfl
        have cA1 := PA.out.at (i := 1) rfl
        have cd0 := Dd.out.c0
        have cd1 := Dd.out.c1
        by_cases hrc : r = c
        · obtain ⟨hE0, kz, hzz⟩ := HE.out hrc
          subst hE0
          subst hrc
          have HFU : Hid (det r (en r xs) ≠ 0 ↔ rl = r) := by
            unfold Hid
            rw [← ERa.out]
            exact HZa.out.full
          have ZZ := hid hzz
          clear hzz
          obtain ⟨dA, hdA⟩ : ∃ dA, det r (en r xs) = dA := ⟨_, rfl⟩
          rw [hdA] at ZZ HFU
          clear hdA
          obtain ⟨cq, hcq⟩ : ∃ cq, cmpI dA 0 = cq := ⟨_, rfl⟩
          have HCQ := hid hcq
          by_cases hd0 : dA = 0
          · have cqe : cq = 0 := by rw [← hcq, hd0, cmpI_self]
            have hln : ¬ rl = r := fun q => HFU.out.2 q hd0
            have hlr : ¬ (rl : Int) = (r : Int) := by omega
            subst cqe
            clear hcq hd0
            have KB : Hid (∀ w', Below Wc.heap.size Wc w' → w'.cell? ⟨w.heap.size, 0, none⟩ = some (.int .i64 (r : Int)) ∧ w'.cell? ⟨w.heap.size, 1, none⟩ = some (.int .i64 (r : Int)) ∧ w'.cell? ⟨bd, 0, none⟩ = some (.bool nd) ∧ w'.cell? ⟨bd, 1, none⟩ = some (.slice ad ld cd)) := fun w' h => ⟨cnow h cA0, cnow h cA1, cnow h cd0, cnow h cd1⟩
            refine wp_region_tail (fun w' => w'.cell? ⟨w.heap.size, 0, none⟩ = some (.int .i64 (r : Int)) ∧ w'.cell? ⟨w.heap.size, 1, none⟩ = some (.int .i64 (r : Int)) ∧ w'.cell? ⟨bd, 0, none⟩ = some (.bool nd) ∧ w'.cell? ⟨bd, 1, none⟩ = some (.slice ad ld cd)) 18 (by kernel_rfl) ?_
            obtain ⟨D61, hD⟩ : ∃ D61, Wc.drew = D61 := ⟨_, rfl⟩
            have GB : Hid (Below Wc.heap.size Wc D61) := by unfold Hid; rw [← hD]; exact (Below.refl _ _).drew
            rw [hD]
            clear hD
            refine wpAnyT_take (i := 0) (oi := { dst := some 100, op := Op.fieldAddr 24 (Operand.tmp 2) 0, type := 0, pos := "outright.go:198", after := #[], guard := none }) (v := (.pointer (some ⟨w.heap.size, 0, none⟩))) rfl (by kernel_rfl) (fun _ _ _ h => h) (Or.inl ⟨by rfl, ?_⟩) (KB.out _ GB.out) ?_
            · intro w hSw
              (try dsimp only at hSw)
              go_simp
            simp only [Act.put, List.setIfInBounds_toArray, List.set_cons_zero, List.set_cons_succ]
            refine wpAnyT_take (i := 1) (oi := { dst := some 101, op := Op.load 3 (Operand.tmp 100), type := 3, pos := "outright.go:198", after := #[{ on := 0, ground := Ground.data }], guard := none }) (v := (.int .i64 (r : Int))) rfl (by kernel_rfl) (fun _ _ _ h => h) (Or.inl ⟨by rfl, ?_⟩) (KB.out _ GB.out) ?_
            · intro w hSw
              (try dsimp only at hSw)
              go_simp
            simp only [Act.put, List.setIfInBounds_toArray, List.set_cons_zero, List.set_cons_succ]
            refine wpAnyT_take (i := 2) (oi := { dst := some 102, op := Op.fieldAddr 24 (Operand.tmp 2) 1, type := 0, pos := "outright.go:198", after := #[], guard := none }) (v := (.pointer (some ⟨w.heap.size, 1, none⟩))) rfl (by kernel_rfl) (fun _ _ _ h => h) (Or.inl ⟨by rfl, ?_⟩) (KB.out _ GB.out) ?_
            · intro w hSw
              (try dsimp only at hSw)
              go_simp
            simp only [Act.put, List.setIfInBounds_toArray, List.set_cons_zero, List.set_cons_succ]
            refine wpAnyT_take (i := 3) (oi := { dst := some 103, op := Op.load 3 (Operand.tmp 102), type := 3, pos := "outright.go:198", after := #[{ on := 2, ground := Ground.data }], guard := none }) (v := (.int .i64 (r : Int))) rfl (by kernel_rfl) (fun _ _ _ h => h) (Or.inl ⟨by rfl, ?_⟩) (KB.out _ GB.out) ?_
            · intro w hSw
              (try dsimp only at hSw)
              go_simp
            simp only [Act.put, List.setIfInBounds_toArray, List.set_cons_zero, List.set_cons_succ]
            refine wpAnyT_take (i := 4) (oi := { dst := some 104, op := Op.binOp BinOp.eql 3 (Operand.tmp 101) (Operand.tmp 103) 3, type := 4, pos := "outright.go:198", after := #[{ on := 1, ground := Ground.data }, { on := 3, ground := Ground.data }], guard := none }) (v := (.bool true)) rfl (by kernel_rfl) (fun _ _ _ h => h) (Or.inl ⟨by rfl, ?_⟩) (KB.out _ GB.out) ?_
            · intro w hSw
              (try dsimp only at hSw)
              go_simp
            simp only [Act.put, List.setIfInBounds_toArray, List.set_cons_zero, List.set_cons_succ]
            refine wpAnyT_take (i := 5) (oi := { dst := some 105, op := Op.move (Operand.tmp 104), type := 4, pos := "outright.go:198", after := #[{ on := 4, ground := Ground.data }], guard := none }) (v := (.bool true)) rfl (by kernel_rfl) (fun _ _ _ h => h) (Or.inl ⟨by rfl, ?_⟩) (KB.out _ GB.out) ?_
            · intro w hSw
              (try dsimp only at hSw)
              go_simp
            simp only [Act.put, List.setIfInBounds_toArray, List.set_cons_zero, List.set_cons_succ]
            refine wpAnyT_take (i := 6) (oi := { dst := some 106, op := Op.move (Operand.tmp 14), type := 35, pos := "outright.go:198", after := #[{ on := 5, ground := Ground.guard }], guard := some (5, true) }) (v := (.int .i64 0)) rfl (by kernel_rfl) (fun _ _ _ h => h) (Or.inl ⟨by rfl, ?_⟩) (KB.out _ GB.out) ?_
            · intro w hSw
              (try dsimp only at hSw)
              go_simp
            simp only [Act.put, List.setIfInBounds_toArray, List.set_cons_zero, List.set_cons_succ]
            refine wpAnyT_take (i := 7) (oi := { dst := some 107, op := Op.binOp BinOp.neq 35 (Operand.tmp 106) (Operand.const (Value.int IntKind.i64 0)) 35, type := 4, pos := "outright.go:198", after := #[{ on := 6, ground := Ground.data }, { on := 5, ground := Ground.guard }], guard := some (5, true) }) (v := (.bool false)) rfl (by kernel_rfl) (fun _ _ _ h => h) (Or.inl ⟨by rfl, ?_⟩) (KB.out _ GB.out) ?_
            · intro w hSw
              (try dsimp only at hSw)
              go_simp
            simp only [Act.put, List.setIfInBounds_toArray, List.set_cons_zero, List.set_cons_succ]
            refine wpAnyT_take (i := 8) (oi := { dst := some 108, op := Op.move (Operand.tmp 107), type := 4, pos := "outright.go:198", after := #[{ on := 7, ground := Ground.data }, { on := 5, ground := Ground.chain }, { on := 5, ground := Ground.guard }], guard := some (5, true) }) (v := (.bool false)) rfl (by kernel_rfl) (fun _ _ _ h => h) (Or.inl ⟨by rfl, ?_⟩) (KB.out _ GB.out) ?_
            · intro w hSw
              (try dsimp only at hSw)
              go_simp
            simp only [Act.put, List.setIfInBounds_toArray, List.set_cons_zero, List.set_cons_succ]
            refine wpAnyT_take (i := 9) (oi := { dst := some 109, op := Op.load 30 (Operand.tmp 13), type := 30, pos := "outright.go:198", after := #[{ on := 8, ground := Ground.guard }], guard := some (8, false) }) (v := (.agg #[.bool nd, .slice ad ld cd])) rfl (by kernel_rfl) (fun _ _ _ h => h) (Or.inl ⟨by rfl, ?_⟩) (KB.out _ GB.out) ?_
            · intro w hSw
              (try dsimp only at hSw)
              go_simp
            simp only [Act.put, List.setIfInBounds_toArray, List.set_cons_zero, List.set_cons_succ]
            refine wpAnyT_take (i := 12) (oi := { dst := some 112, op := Op.move (Operand.tmp 5), type := 3, pos := "outright.go:198", after := #[{ on := 8, ground := Ground.guard }], guard := some (8, false) }) (v := (.int .i64 (rl : Int))) rfl (by kernel_rfl) (fun _ _ _ h => h) (Or.inl ⟨by rfl, ?_⟩) (KB.out _ GB.out) ?_
            · intro w hSw
              (try dsimp only at hSw)
              go_simp
            simp only [Act.put, List.setIfInBounds_toArray, List.set_cons_zero, List.set_cons_succ]
            refine wpAnyT_take (i := 13) (oi := { dst := some 113, op := Op.fieldAddr 24 (Operand.tmp 2) 0, type := 0, pos := "outright.go:198", after := #[{ on := 8, ground := Ground.guard }], guard := some (8, false) }) (v := (.pointer (some ⟨w.heap.size, 0, none⟩))) rfl (by kernel_rfl) (fun _ _ _ h => h) (Or.inl ⟨by rfl, ?_⟩) (KB.out _ GB.out) ?_
            · intro w hSw
              (try dsimp only at hSw)
              go_simp
            simp only [Act.put, List.setIfInBounds_toArray, List.set_cons_zero, List.set_cons_succ]
            refine wpAnyT_take (i := 14) (oi := { dst := some 114, op := Op.load 3 (Operand.tmp 113), type := 3, pos := "outright.go:198", after := #[{ on := 13, ground := Ground.data }, { on := 8, ground := Ground.guard }], guard := some (8, false) }) (v := (.int .i64 (r : Int))) rfl (by kernel_rfl) (fun _ _ _ h => h) (Or.inl ⟨by rfl, ?_⟩) (KB.out _ GB.out) ?_
            · intro w hSw
              (try dsimp only at hSw)
              go_simp
            simp only [Act.put, List.setIfInBounds_toArray, List.set_cons_zero, List.set_cons_succ]
            refine wpAnyT_take (i := 15) (oi := { dst := some 115, op := Op.binOp BinOp.eql 3 (Operand.tmp 112) (Operand.tmp 114) 3, type := 4, pos := "outright.go:198", after := #[{ on := 12, ground := Ground.data }, { on := 14, ground := Ground.data }, { on := 8, ground := Ground.guard }], guard := some (8, false) }) (v := (.bool false)) rfl (by kernel_rfl) (fun _ _ _ h => h) (Or.inl ⟨by rfl, ?_⟩) (KB.out _ GB.out) ?_
            · intro w hSw
              (try dsimp only at hSw)
              go_simp
            simp only [Act.put, List.setIfInBounds_toArray, List.set_cons_zero, List.set_cons_succ]
            refine wpAnyT_one (i := 10) (o := { dst := some 110, op := Op.call { callee := Callee.value (Operand.func 24), args := #[Operand.tmp 109], argTypes := #[30] }, type := 3, pos := "outright.go:198", after := #[{ on := 9, ground := Ground.data }, { on := 8, ground := Ground.chain }, { on := 8, ground := Ground.guard }], guard := some (8, false) }) (by kernel_rfl) rfl (fun K hK => ?_)
            go_simp
            go_at_call 24
            refine (sign_z (ZZ.out.now GB.out).zi).mono ?_
            rintro e w62 ⟨rfl, b⟩
            have lz62 := (show Below _ _ _ from b).size
            replace GB := hid (below_step GB.out b)
            rw [HCQ.out]
            clear b
            refine hK.out _ _ (fun _ => KB.out _ GB.out) ?_
            clear hK
            refine wpAnyT_take (i := 11) (oi := { dst := some 111, op := Op.binOp BinOp.neq 3 (Operand.tmp 110) (Operand.const (Value.int IntKind.i64 0)) 3, type := 4, pos := "outright.go:198", after := #[{ on := 10, ground := Ground.data }, { on := 8, ground := Ground.guard }], guard := some (8, false) }) (v := (.bool false)) rfl (by kernel_rfl) (fun _ _ _ h => h) (Or.inl ⟨by rfl, ?_⟩) (KB.out _ GB.out) ?_
            · intro w hSw
              (try dsimp only at hSw)
              go_simp
            simp only [Act.put, List.setIfInBounds_toArray, List.set_cons_zero, List.set_cons_succ]
            refine wpAnyT_take (i := 16) (oi := { dst := some 116, op := Op.binOp BinOp.neq 4 (Operand.tmp 111) (Operand.tmp 115) 4, type := 4, pos := "outright.go:198", after := #[{ on := 11, ground := Ground.data }, { on := 15, ground := Ground.data }, { on := 8, ground := Ground.guard }], guard := some (8, false) }) (v := (.bool false)) rfl (by kernel_rfl) (fun _ _ _ h => h) (Or.inl ⟨by rfl, ?_⟩) (KB.out _ GB.out) ?_
            · intro w hSw
              (try dsimp only at hSw)
              go_simp
            simp only [Act.put, List.setIfInBounds_toArray, List.set_cons_zero, List.set_cons_succ]
            refine wpAnyT_take (i := 17) (oi := { dst := some 117, op := Op.pick (Operand.tmp 108) (Operand.const (Value.bool true)) (Operand.tmp 116), type := 4, pos := "outright.go:198", after := #[{ on := 8, ground := Ground.data }, { on := 16, ground := Ground.data }, { on := 5, ground := Ground.guard }], guard := some (5, true) }) (v := (.bool false)) rfl (by kernel_rfl) (fun _ _ _ h => h) (Or.inl ⟨by rfl, ?_⟩) (KB.out _ GB.out) ?_
            · intro w hSw
              (try dsimp only at hSw)
              go_simp
            simp only [Act.put, List.setIfInBounds_toArray, List.set_cons_zero, List.set_cons_succ]
            refine wpAnyT_one (i := 18) (o := { dst := some 118, op := Op.pick (Operand.tmp 105) (Operand.tmp 117) (Operand.const (Value.bool false)), type := 4, pos := "outright.go:198", after := #[{ on := 5, ground := Ground.data }, { on := 17, ground := Ground.data }], guard := none }) (by kernel_rfl) rfl (fun K hK => ?_)
            go_simp
            refine hK.out _ _ (fun h => absurd h (by decide)) ?_
            clear hK
            try simp only [Act.put]
            refine wpAnyT_done (by kernel_rfl) ?_ _
            have FP := hid (GB.out)
            clear GB KB
            go_wp2_with fail
            go_meet
            exact ⟨rfl, FP.out⟩
          · have hq : (cq != 0) = true := by rw [← hcq]; exact cmpI_ne hd0
            have cqe : ¬ cq = 0 := by simpa using hq
            have hln : rl = r := HFU.out.1 hd0
            subst hln
            clear hcq hd0
            have KB : Hid (∀ w', Below Wc.heap.size Wc w' → w'.cell? ⟨w.heap.size, 0, none⟩ = some (.int .i64 (rl : Int)) ∧ w'.cell? ⟨w.heap.size, 1, none⟩ = some (.int .i64 (rl : Int)) ∧ w'.cell? ⟨bd, 0, none⟩ = some (.bool nd) ∧ w'.cell? ⟨bd, 1, none⟩ = some (.slice ad ld cd)) := fun w' h => ⟨cnow h cA0, cnow h cA1, cnow h cd0, cnow h cd1⟩
            refine wp_region_tail (fun w' => w'.cell? ⟨w.heap.size, 0, none⟩ = some (.int .i64 (rl : Int)) ∧ w'.cell? ⟨w.heap.size, 1, none⟩ = some (.int .i64 (rl : Int)) ∧ w'.cell? ⟨bd, 0, none⟩ = some (.bool nd) ∧ w'.cell? ⟨bd, 1, none⟩ = some (.slice ad ld cd)) 18 (by kernel_rfl) ?_
            obtain ⟨D61, hD⟩ : ∃ D61, Wc.drew = D61 := ⟨_, rfl⟩
            have GB : Hid (Below Wc.heap.size Wc D61) := by unfold Hid; rw [← hD]; exact (Below.refl _ _).drew
            rw [hD]
            clear hD
            refine wpAnyT_take (i := 0) (oi := { dst := some 100, op := Op.fieldAddr 24 (Operand.tmp 2) 0, type := 0, pos := "outright.go:198", after := #[], guard := none }) (v := (.pointer (some ⟨w.heap.size, 0, none⟩))) rfl (by kernel_rfl) (fun _ _ _ h => h) (Or.inl ⟨by rfl, ?_⟩) (KB.out _ GB.out) ?_
            · intro w hSw
              (try dsimp only at hSw)
              go_simp
            simp only [Act.put, List.setIfInBounds_toArray, List.set_cons_zero, List.set_cons_succ]
            refine wpAnyT_take (i := 1) (oi := { dst := some 101, op := Op.load 3 (Operand.tmp 100), type := 3, pos := "outright.go:198", after := #[{ on := 0, ground := Ground.data }], guard := none }) (v := (.int .i64 (rl : Int))) rfl (by kernel_rfl) (fun _ _ _ h => h) (Or.inl ⟨by rfl, ?_⟩) (KB.out _ GB.out) ?_
            · intro w hSw
              (try dsimp only at hSw)
              go_simp
            simp only [Act.put, List.setIfInBounds_toArray, List.set_cons_zero, List.set_cons_succ]
            refine wpAnyT_take (i := 2) (oi := { dst := some 102, op := Op.fieldAddr 24 (Operand.tmp 2) 1, type := 0, pos := "outright.go:198", after := #[], guard := none }) (v := (.pointer (some ⟨w.heap.size, 1, none⟩))) rfl (by kernel_rfl) (fun _ _ _ h => h) (Or.inl ⟨by rfl, ?_⟩) (KB.out _ GB.out) ?_
            · intro w hSw
              (try dsimp only at hSw)
              go_simp
            simp only [Act.put, List.setIfInBounds_toArray, List.set_cons_zero, List.set_cons_succ]
            refine wpAnyT_take (i := 3) (oi := { dst := some 103, op := Op.load 3 (Operand.tmp 102), type := 3, pos := "outright.go:198", after := #[{ on := 2, ground := Ground.data }], guard := none }) (v := (.int .i64 (rl : Int))) rfl (by kernel_rfl) (fun _ _ _ h => h) (Or.inl ⟨by rfl, ?_⟩) (KB.out _ GB.out) ?_
            · intro w hSw
              (try dsimp only at hSw)
              go_simp
            simp only [Act.put, List.setIfInBounds_toArray, List.set_cons_zero, List.set_cons_succ]
            refine wpAnyT_take (i := 4) (oi := { dst := some 104, op := Op.binOp BinOp.eql 3 (Operand.tmp 101) (Operand.tmp 103) 3, type := 4, pos := "outright.go:198", after := #[{ on := 1, ground := Ground.data }, { on := 3, ground := Ground.data }], guard := none }) (v := (.bool true)) rfl (by kernel_rfl) (fun _ _ _ h => h) (Or.inl ⟨by rfl, ?_⟩) (KB.out _ GB.out) ?_
            · intro w hSw
              (try dsimp only at hSw)
              go_simp
            simp only [Act.put, List.setIfInBounds_toArray, List.set_cons_zero, List.set_cons_succ]
            refine wpAnyT_take (i := 5) (oi := { dst := some 105, op := Op.move (Operand.tmp 104), type := 4, pos := "outright.go:198", after := #[{ on := 4, ground := Ground.data }], guard := none }) (v := (.bool true)) rfl (by kernel_rfl) (fun _ _ _ h => h) (Or.inl ⟨by rfl, ?_⟩) (KB.out _ GB.out) ?_
            · intro w hSw
              (try dsimp only at hSw)
              go_simp
            simp only [Act.put, List.setIfInBounds_toArray, List.set_cons_zero, List.set_cons_succ]
            refine wpAnyT_take (i := 6) (oi := { dst := some 106, op := Op.move (Operand.tmp 14), type := 35, pos := "outright.go:198", after := #[{ on := 5, ground := Ground.guard }], guard := some (5, true) }) (v := (.int .i64 0)) rfl (by kernel_rfl) (fun _ _ _ h => h) (Or.inl ⟨by rfl, ?_⟩) (KB.out _ GB.out) ?_
            · intro w hSw
              (try dsimp only at hSw)
              go_simp
            simp only [Act.put, List.setIfInBounds_toArray, List.set_cons_zero, List.set_cons_succ]
            refine wpAnyT_take (i := 7) (oi := { dst := some 107, op := Op.binOp BinOp.neq 35 (Operand.tmp 106) (Operand.const (Value.int IntKind.i64 0)) 35, type := 4, pos := "outright.go:198", after := #[{ on := 6, ground := Ground.data }, { on := 5, ground := Ground.guard }], guard := some (5, true) }) (v := (.bool false)) rfl (by kernel_rfl) (fun _ _ _ h => h) (Or.inl ⟨by rfl, ?_⟩) (KB.out _ GB.out) ?_
            · intro w hSw
              (try dsimp only at hSw)
              go_simp
            simp only [Act.put, List.setIfInBounds_toArray, List.set_cons_zero, List.set_cons_succ]
            refine wpAnyT_take (i := 8) (oi := { dst := some 108, op := Op.move (Operand.tmp 107), type := 4, pos := "outright.go:198", after := #[{ on := 7, ground := Ground.data }, { on := 5, ground := Ground.chain }, { on := 5, ground := Ground.guard }], guard := some (5, true) }) (v := (.bool false)) rfl (by kernel_rfl) (fun _ _ _ h => h) (Or.inl ⟨by rfl, ?_⟩) (KB.out _ GB.out) ?_
            · intro w hSw
              (try dsimp only at hSw)
              go_simp
            simp only [Act.put, List.setIfInBounds_toArray, List.set_cons_zero, List.set_cons_succ]
            refine wpAnyT_take (i := 9) (oi := { dst := some 109, op := Op.load 30 (Operand.tmp 13), type := 30, pos := "outright.go:198", after := #[{ on := 8, ground := Ground.guard }], guard := some (8, false) }) (v := (.agg #[.bool nd, .slice ad ld cd])) rfl (by kernel_rfl) (fun _ _ _ h => h) (Or.inl ⟨by rfl, ?_⟩) (KB.out _ GB.out) ?_
            · intro w hSw
              (try dsimp only at hSw)
              go_simp
            simp only [Act.put, List.setIfInBounds_toArray, List.set_cons_zero, List.set_cons_succ]
            refine wpAnyT_take (i := 12) (oi := { dst := some 112, op := Op.move (Operand.tmp 5), type := 3, pos := "outright.go:198", after := #[{ on := 8, ground := Ground.guard }], guard := some (8, false) }) (v := (.int .i64 (rl : Int))) rfl (by kernel_rfl) (fun _ _ _ h => h) (Or.inl ⟨by rfl, ?_⟩) (KB.out _ GB.out) ?_
            · intro w hSw
              (try dsimp only at hSw)
              go_simp
            simp only [Act.put, List.setIfInBounds_toArray, List.set_cons_zero, List.set_cons_succ]
            refine wpAnyT_take (i := 13) (oi := { dst := some 113, op := Op.fieldAddr 24 (Operand.tmp 2) 0, type := 0, pos := "outright.go:198", after := #[{ on := 8, ground := Ground.guard }], guard := some (8, false) }) (v := (.pointer (some ⟨w.heap.size, 0, none⟩))) rfl (by kernel_rfl) (fun _ _ _ h => h) (Or.inl ⟨by rfl, ?_⟩) (KB.out _ GB.out) ?_
            · intro w hSw
              (try dsimp only at hSw)
              go_simp
            simp only [Act.put, List.setIfInBounds_toArray, List.set_cons_zero, List.set_cons_succ]
            refine wpAnyT_take (i := 14) (oi := { dst := some 114, op := Op.load 3 (Operand.tmp 113), type := 3, pos := "outright.go:198", after := #[{ on := 13, ground := Ground.data }, { on := 8, ground := Ground.guard }], guard := some (8, false) }) (v := (.int .i64 (rl : Int))) rfl (by kernel_rfl) (fun _ _ _ h => h) (Or.inl ⟨by rfl, ?_⟩) (KB.out _ GB.out) ?_
            · intro w hSw
              (try dsimp only at hSw)
              go_simp
            simp only [Act.put, List.setIfInBounds_toArray, List.set_cons_zero, List.set_cons_succ]
            refine wpAnyT_take (i := 15) (oi := { dst := some 115, op := Op.binOp BinOp.eql 3 (Operand.tmp 112) (Operand.tmp 114) 3, type := 4, pos := "outright.go:198", after := #[{ on := 12, ground := Ground.data }, { on := 14, ground := Ground.data }, { on := 8, ground := Ground.guard }], guard := some (8, false) }) (v := (.bool true)) rfl (by kernel_rfl) (fun _ _ _ h => h) (Or.inl ⟨by rfl, ?_⟩) (KB.out _ GB.out) ?_
            · intro w hSw
              (try dsimp only at hSw)
              go_simp
            simp only [Act.put, List.setIfInBounds_toArray, List.set_cons_zero, List.set_cons_succ]
            refine wpAnyT_one (i := 10) (o := { dst := some 110, op := Op.call { callee := Callee.value (Operand.func 24), args := #[Operand.tmp 109], argTypes := #[30] }, type := 3, pos := "outright.go:198", after := #[{ on := 9, ground := Ground.data }, { on := 8, ground := Ground.chain }, { on := 8, ground := Ground.guard }], guard := some (8, false) }) (by kernel_rfl) rfl (fun K hK => ?_)
            go_simp
            go_at_call 24
            refine (sign_z (ZZ.out.now GB.out).zi).mono ?_
            rintro e w62 ⟨rfl, b⟩
            have lz62 := (show Below _ _ _ from b).size
            replace GB := hid (below_step GB.out b)
            rw [HCQ.out]
            clear b
            refine hK.out _ _ (fun _ => KB.out _ GB.out) ?_
            clear hK
            refine wpAnyT_take (i := 11) (oi := { dst := some 111, op := Op.binOp BinOp.neq 3 (Operand.tmp 110) (Operand.const (Value.int IntKind.i64 0)) 3, type := 4, pos := "outright.go:198", after := #[{ on := 10, ground := Ground.data }, { on := 8, ground := Ground.guard }], guard := some (8, false) }) (v := (.bool true)) rfl (by kernel_rfl) (fun _ _ _ h => h) (Or.inl ⟨by rfl, ?_⟩) (KB.out _ GB.out) ?_
            · intro w hSw
              (try dsimp only at hSw)
              go_simp
            simp only [Act.put, List.setIfInBounds_toArray, List.set_cons_zero, List.set_cons_succ]
            refine wpAnyT_take (i := 16) (oi := { dst := some 116, op := Op.binOp BinOp.neq 4 (Operand.tmp 111) (Operand.tmp 115) 4, type := 4, pos := "outright.go:198", after := #[{ on := 11, ground := Ground.data }, { on := 15, ground := Ground.data }, { on := 8, ground := Ground.guard }], guard := some (8, false) }) (v := (.bool false)) rfl (by kernel_rfl) (fun _ _ _ h => h) (Or.inl ⟨by rfl, ?_⟩) (KB.out _ GB.out) ?_
            · intro w hSw
              (try dsimp only at hSw)
              go_simp
            simp only [Act.put, List.setIfInBounds_toArray, List.set_cons_zero, List.set_cons_succ]
            refine wpAnyT_take (i := 17) (oi := { dst := some 117, op := Op.pick (Operand.tmp 108) (Operand.const (Value.bool true)) (Operand.tmp 116), type := 4, pos := "outright.go:198", after := #[{ on := 8, ground := Ground.data }, { on := 16, ground := Ground.data }, { on := 5, ground := Ground.guard }], guard := some (5, true) }) (v := (.bool false)) rfl (by kernel_rfl) (fun _ _ _ h => h) (Or.inl ⟨by rfl, ?_⟩) (KB.out _ GB.out) ?_
            · intro w hSw
              (try dsimp only at hSw)
              go_simp
            simp only [Act.put, List.setIfInBounds_toArray, List.set_cons_zero, List.set_cons_succ]
            refine wpAnyT_one (i := 18) (o := { dst := some 118, op := Op.pick (Operand.tmp 105) (Operand.tmp 117) (Operand.const (Value.bool false)), type := 4, pos := "outright.go:198", after := #[{ on := 5, ground := Ground.data }, { on := 17, ground := Ground.data }], guard := none }) (by kernel_rfl) rfl (fun K hK => ?_)
            go_simp
            refine hK.out _ _ (fun h => absurd h (by decide)) ?_
            clear hK
            try simp only [Act.put]
            refine wpAnyT_done (by kernel_rfl) ?_ _
            have FP := hid (GB.out)
            clear GB KB
            go_wp2_with fail
            go_meet
            exact ⟨rfl, FP.out⟩
        · have hii : ¬ (r : Int) = (c : Int) := by omega
          have hib : ((r : Int) == (c : Int)) = false := by simp; omega
          clear hrc
          have KB : Hid (∀ w', Below Wc.heap.size Wc w' → w'.cell? ⟨w.heap.size, 0, none⟩ = some (.int .i64 (r : Int)) ∧ w'.cell? ⟨w.heap.size, 1, none⟩ = some (.int .i64 (c : Int))) := fun w' h => ⟨cnow h cA0, cnow h cA1⟩
          refine wp_region_tail (fun w' => w'.cell? ⟨w.heap.size, 0, none⟩ = some (.int .i64 (r : Int)) ∧ w'.cell? ⟨w.heap.size, 1, none⟩ = some (.int .i64 (c : Int))) 18 (by kernel_rfl) ?_
          obtain ⟨D61, hD⟩ : ∃ D61, Wc.drew = D61 := ⟨_, rfl⟩
          have GB : Hid (Below Wc.heap.size Wc D61) := by unfold Hid; rw [← hD]; exact (Below.refl _ _).drew
          rw [hD]
          clear hD
          refine wpAnyT_take (i := 0) (oi := { dst := some 100, op := Op.fieldAddr 24 (Operand.tmp 2) 0, type := 0, pos := "outright.go:198", after := #[], guard := none }) (v := (.pointer (some ⟨w.heap.size, 0, none⟩))) rfl (by kernel_rfl) (fun _ _ _ h => h) (Or.inl ⟨by rfl, ?_⟩) (KB.out _ GB.out) ?_
          · intro w hSw
            (try dsimp only at hSw)
            go_simp
          simp only [Act.put, List.setIfInBounds_toArray, List.set_cons_zero, List.set_cons_succ]
          refine wpAnyT_take (i := 1) (oi := { dst := some 101, op := Op.load 3 (Operand.tmp 100), type := 3, pos := "outright.go:198", after := #[{ on := 0, ground := Ground.data }], guard := none }) (v := (.int .i64 (r : Int))) rfl (by kernel_rfl) (fun _ _ _ h => h) (Or.inl ⟨by rfl, ?_⟩) (KB.out _ GB.out) ?_
          · intro w hSw
            (try dsimp only at hSw)
            go_simp
          simp only [Act.put, List.setIfInBounds_toArray, List.set_cons_zero, List.set_cons_succ]
          refine wpAnyT_take (i := 2) (oi := { dst := some 102, op := Op.fieldAddr 24 (Operand.tmp 2) 1, type := 0, pos := "outright.go:198", after := #[], guard := none }) (v := (.pointer (some ⟨w.heap.size, 1, none⟩))) rfl (by kernel_rfl) (fun _ _ _ h => h) (Or.inl ⟨by rfl, ?_⟩) (KB.out _ GB.out) ?_
          · intro w hSw
            (try dsimp only at hSw)
            go_simp
          simp only [Act.put, List.setIfInBounds_toArray, List.set_cons_zero, List.set_cons_succ]
          refine wpAnyT_take (i := 3) (oi := { dst := some 103, op := Op.load 3 (Operand.tmp 102), type := 3, pos := "outright.go:198", after := #[{ on := 2, ground := Ground.data }], guard := none }) (v := (.int .i64 (c : Int))) rfl (by kernel_rfl) (fun _ _ _ h => h) (Or.inl ⟨by rfl, ?_⟩) (KB.out _ GB.out) ?_
          · intro w hSw
            (try dsimp only at hSw)
            go_simp
          simp only [Act.put, List.setIfInBounds_toArray, List.set_cons_zero, List.set_cons_succ]
          refine wpAnyT_take (i := 4) (oi := { dst := some 104, op := Op.binOp BinOp.eql 3 (Operand.tmp 101) (Operand.tmp 103) 3, type := 4, pos := "outright.go:198", after := #[{ on := 1, ground := Ground.data }, { on := 3, ground := Ground.data }], guard := none }) (v := (.bool false)) rfl (by kernel_rfl) (fun _ _ _ h => h) (Or.inl ⟨by rfl, ?_⟩) (KB.out _ GB.out) ?_
          · intro w hSw
            (try dsimp only at hSw)
            go_simp
          simp only [Act.put, List.setIfInBounds_toArray, List.set_cons_zero, List.set_cons_succ]
          refine wpAnyT_take (i := 5) (oi := { dst := some 105, op := Op.move (Operand.tmp 104), type := 4, pos := "outright.go:198", after := #[{ on := 4, ground := Ground.data }], guard := none }) (v := (.bool false)) rfl (by kernel_rfl) (fun _ _ _ h => h) (Or.inl ⟨by rfl, ?_⟩) (KB.out _ GB.out) ?_
          · intro w hSw
            (try dsimp only at hSw)
            go_simp
          simp only [Act.put, List.setIfInBounds_toArray, List.set_cons_zero, List.set_cons_succ]
          refine wpAnyT_take (i := 6) (oi := { dst := some 106, op := Op.move (Operand.tmp 14), type := 35, pos := "outright.go:198", after := #[{ on := 5, ground := Ground.guard }], guard := some (5, true) }) (v := undef) rfl (by kernel_rfl) (fun _ _ _ h => h) (Or.inr ⟨by rfl, rfl⟩) (KB.out _ GB.out) ?_
          simp only [Act.put, List.setIfInBounds_toArray, List.set_cons_zero, List.set_cons_succ]
          refine wpAnyT_take (i := 7) (oi := { dst := some 107, op := Op.binOp BinOp.neq 35 (Operand.tmp 106) (Operand.const (Value.int IntKind.i64 0)) 35, type := 4, pos := "outright.go:198", after := #[{ on := 6, ground := Ground.data }, { on := 5, ground := Ground.guard }], guard := some (5, true) }) (v := undef) rfl (by kernel_rfl) (fun _ _ _ h => h) (Or.inr ⟨by rfl, rfl⟩) (KB.out _ GB.out) ?_
          simp only [Act.put, List.setIfInBounds_toArray, List.set_cons_zero, List.set_cons_succ]
          refine wpAnyT_take (i := 8) (oi := { dst := some 108, op := Op.move (Operand.tmp 107), type := 4, pos := "outright.go:198", after := #[{ on := 7, ground := Ground.data }, { on := 5, ground := Ground.chain }, { on := 5, ground := Ground.guard }], guard := some (5, true) }) (v := undef) rfl (by kernel_rfl) (fun _ _ _ h => h) (Or.inr ⟨by rfl, rfl⟩) (KB.out _ GB.out) ?_
          simp only [Act.put, List.setIfInBounds_toArray, List.set_cons_zero, List.set_cons_succ]
          refine wpAnyT_take (i := 9) (oi := { dst := some 109, op := Op.load 30 (Operand.tmp 13), type := 30, pos := "outright.go:198", after := #[{ on := 8, ground := Ground.guard }], guard := some (8, false) }) (v := undef) rfl (by kernel_rfl) (fun _ _ _ h => h) (Or.inr ⟨by rfl, rfl⟩) (KB.out _ GB.out) ?_
          simp only [Act.put, List.setIfInBounds_toArray, List.set_cons_zero, List.set_cons_succ]
          refine wpAnyT_take (i := 10) (oi := { dst := some 110, op := Op.call { callee := Callee.value (Operand.func 24), args := #[Operand.tmp 109], argTypes := #[30] }, type := 3, pos := "outright.go:198", after := #[{ on := 9, ground := Ground.data }, { on := 8, ground := Ground.chain }, { on := 8, ground := Ground.guard }], guard := some (8, false) }) (v := undef) rfl (by kernel_rfl) (fun _ _ _ h => h) (Or.inr ⟨by rfl, rfl⟩) (KB.out _ GB.out) ?_
          simp only [Act.put, List.setIfInBounds_toArray, List.set_cons_zero, List.set_cons_succ]
          refine wpAnyT_take (i := 11) (oi := { dst := some 111, op := Op.binOp BinOp.neq 3 (Operand.tmp 110) (Operand.const (Value.int IntKind.i64 0)) 3, type := 4, pos := "outright.go:198", after := #[{ on := 10, ground := Ground.data }, { on := 8, ground := Ground.guard }], guard := some (8, false) }) (v := undef) rfl (by kernel_rfl) (fun _ _ _ h => h) (Or.inr ⟨by rfl, rfl⟩) (KB.out _ GB.out) ?_
          simp only [Act.put, List.setIfInBounds_toArray, List.set_cons_zero, List.set_cons_succ]
          refine wpAnyT_take (i := 12) (oi := { dst := some 112, op := Op.move (Operand.tmp 5), type := 3, pos := "outright.go:198", after := #[{ on := 8, ground := Ground.guard }], guard := some (8, false) }) (v := undef) rfl (by kernel_rfl) (fun _ _ _ h => h) (Or.inr ⟨by rfl, rfl⟩) (KB.out _ GB.out) ?_
          simp only [Act.put, List.setIfInBounds_toArray, List.set_cons_zero, List.set_cons_succ]
          refine wpAnyT_take (i := 13) (oi := { dst := some 113, op := Op.fieldAddr 24 (Operand.tmp 2) 0, type := 0, pos := "outright.go:198", after := #[{ on := 8, ground := Ground.guard }], guard := some (8, false) }) (v := undef) rfl (by kernel_rfl) (fun _ _ _ h => h) (Or.inr ⟨by rfl, rfl⟩) (KB.out _ GB.out) ?_
          simp only [Act.put, List.setIfInBounds_toArray, List.set_cons_zero, List.set_cons_succ]
          refine wpAnyT_take (i := 14) (oi := { dst := some 114, op := Op.load 3 (Operand.tmp 113), type := 3, pos := "outright.go:198", after := #[{ on := 13, ground := Ground.data }, { on := 8, ground := Ground.guard }], guard := some (8, false) }) (v := undef) rfl (by kernel_rfl) (fun _ _ _ h => h) (Or.inr ⟨by rfl, rfl⟩) (KB.out _ GB.out) ?_
          simp only [Act.put, List.setIfInBounds_toArray, List.set_cons_zero, List.set_cons_succ]
          refine wpAnyT_take (i := 15) (oi := { dst := some 115, op := Op.binOp BinOp.eql 3 (Operand.tmp 112) (Operand.tmp 114) 3, type := 4, pos := "outright.go:198", after := #[{ on := 12, ground := Ground.data }, { on := 14, ground := Ground.data }, { on := 8, ground := Ground.guard }], guard := some (8, false) }) (v := undef) rfl (by kernel_rfl) (fun _ _ _ h => h) (Or.inr ⟨by rfl, rfl⟩) (KB.out _ GB.out) ?_
          simp only [Act.put, List.setIfInBounds_toArray, List.set_cons_zero, List.set_cons_succ]
          refine wpAnyT_take (i := 16) (oi := { dst := some 116, op := Op.binOp BinOp.neq 4 (Operand.tmp 111) (Operand.tmp 115) 4, type := 4, pos := "outright.go:198", after := #[{ on := 11, ground := Ground.data }, { on := 15, ground := Ground.data }, { on := 8, ground := Ground.guard }], guard := some (8, false) }) (v := undef) rfl (by kernel_rfl) (fun _ _ _ h => h) (Or.inr ⟨by rfl, rfl⟩) (KB.out _ GB.out) ?_
          simp only [Act.put, List.setIfInBounds_toArray, List.set_cons_zero, List.set_cons_succ]
          refine wpAnyT_take (i := 17) (oi := { dst := some 117, op := Op.pick (Operand.tmp 108) (Operand.const (Value.bool true)) (Operand.tmp 116), type := 4, pos := "outright.go:198", after := #[{ on := 8, ground := Ground.data }, { on := 16, ground := Ground.data }, { on := 5, ground := Ground.guard }], guard := some (5, true) }) (v := undef) rfl (by kernel_rfl) (fun _ _ _ h => h) (Or.inr ⟨by rfl, rfl⟩) (KB.out _ GB.out) ?_
          simp only [Act.put, List.setIfInBounds_toArray, List.set_cons_zero, List.set_cons_succ]
          refine wpAnyT_one (i := 18) (o := { dst := some 118, op := Op.pick (Operand.tmp 105) (Operand.tmp 117) (Operand.const (Value.bool false)), type := 4, pos := "outright.go:198", after := #[{ on := 5, ground := Ground.data }, { on := 17, ground := Ground.data }], guard := none }) (by kernel_rfl) rfl (fun K hK => ?_)
          go_simp
          refine hK.out _ _ (fun h => absurd h (by decide)) ?_
          clear hK
          try simp only [Act.put]
          refine wpAnyT_done (by kernel_rfl) ?_ _
          have FP := hid (GB.out)
          clear GB KB
          go_wp2_with fail
          go_meet
          exact ⟨rfl, FP.out⟩
      case rest =>
      rename World => Wd
      obtain ⟨rfl, b⟩ := hcut
      clear Dd
      replace PA := hid (PA.out.step b)
      replace PB := hid (PB.out.step b)
      replace MA := hid (MA.out.now b)
      replace MB := hid (MB.out.now b)
      replace G := hid (below_step G.out b)
      clear b HE
      have cA0 := PA.out.at (i := 0) rfl
      have cA1 := PA.out.at (i := 1) rfl
      have cA2 := PA.out.at (i := 2) rfl
      have cB0 := PB.out.at (i := 0) rfl
      have cB1 := PB.out.at (i := 1) rfl
      have cB2 := PB.out.at (i := 2) rfl
      go_wp2_with fail
      clear cA0 cA1 cA2 cB0 cB1 cB2
      by_cases hmm : c = r2
      · subst hmm
        refine (mul_yes MA.out MB.out (by omega)).mono ?_
        rintro e w9 ⟨vp, rfl, mp, b⟩
        replace PA := hid (PA.out.step b)
        replace PB := hid (PB.out.step b)
        replace MA := hid (MA.out.now b)
        replace MB := hid (MB.out.now b)
        replace G := hid (below_step G.out b)
        obtain ⟨ap, qp, rfl, -, -⟩ := mp.mx.form
        have MP := hid mp.mx
        clear mp
        clear b
        obtain ⟨lp1, hlp⟩ : ∃ lp1, r * c2 = lp1 := ⟨_, rfl⟩
        rw [hlp] at MP ⊢
        clear hlp
        obtain ⟨V10, hV⟩ : ∃ V10, w9.alloc (.cells #[.int .i64 ((r : Int)), .int .i64 ((c2 : Int)), .slice ap lp1 qp] 24) = V10 := ⟨_, rfl⟩
        obtain ⟨b, sz10⟩ := alo1 w9 (.cells #[.int .i64 ((r : Int)), .int .i64 ((c2 : Int)), .slice ap lp1 qp] 24)
        rw [hV] at b sz10
        replace PA := hid (PA.out.step b)
        replace PB := hid (PB.out.step b)
        replace MA := hid (MA.out.now b)
        replace MB := hid (MB.out.now b)
        replace MP := hid (MP.out.now b)
        replace G := hid (below_step G.out b)
        clear b sz10
        have PP : Hid (Cel V10 w9.heap.size 24 [.int .i64 ((r : Int)), .int .i64 ((c2 : Int)), .slice ap lp1 qp]) := by unfold Hid; rw [← hV]; exact Cel.new w9 _ _
        have cP0 := PP.out.at (i := 0) rfl
        have cP1 := PP.out.at (i := 1) rfl
        have cP2 := PP.out.at (i := 2) rfl
        rw [← hV] at cP0 cP1 cP2
        have EV : Hid (w9.alloc (.cells #[.int .i64 ((r : Int)), .int .i64 ((c2 : Int)), .slice ap lp1 qp] 24) = V10) := hV
        clear hV
        go_wp2_with fail
        rw [EV.out]
        clear EV
        clear cP0 cP1 cP2
        refine (rank_yes MP.out (by omega)).mono ?_
        rintro e w11 ⟨rsp, csp, oddp, hz, rfl, b⟩
        replace PA := hid (PA.out.step b)
        replace PB := hid (PB.out.step b)
        replace MA := hid (MA.out.now b)
        replace MB := hid (MB.out.now b)
        replace MP := hid (MP.out.now b)
        replace PP := hid (PP.out.step b)
        replace G := hid (below_step G.out b)
        have q1 : rsp.length ≤ rl := by rw [← ERa.out]; exact HZa.out.mul_le1 hz (prod_en HXL.out)
        have q2 : rsp.length ≤ rm := by rw [← ERb.out]; exact HZb.out.mul_le2 hz (prod_en HXL.out)
        have q3 : rl + rm ≤ c + rsp.length := by rw [← ERa.out, ← ERb.out]; exact HZa.out.sylv HZb.out hz (prod_en HXL.out)
        obtain ⟨rp, hrp⟩ : ∃ rp, rsp.length = rp := ⟨_, rfl⟩
        rw [hrp] at q1 q2 q3 ⊢
        have hw1 : IntKind.i64.wrap ((rl : Int) + (rm : Int)) = (rl : Int) + (rm : Int) := by rw [wrap_is] <;> omega
        obtain ⟨y1, hy1⟩ : ∃ y1, (rl : Int) + (rm : Int) = y1 := ⟨_, rfl⟩
        have hw1' : IntKind.i64.wrap ((rl : Int) + (rm : Int)) = y1 := hw1.trans hy1
        have hw2 : IntKind.i64.wrap (y1 - (c : Int)) = y1 - (c : Int) := by rw [wrap_is] <;> omega
        obtain ⟨y2, hy2⟩ : ∃ y2, y1 - (c : Int) = y2 := ⟨_, rfl⟩
        have hw2' : IntKind.i64.wrap (y1 - (c : Int)) = y2 := hw2.trans hy2
        have p1 : ¬ (rl : Int) < (rp : Int) := by omega
        have p2 : ¬ (rm : Int) < (rp : Int) := by omega
        have p3 : ¬ (rp : Int) < y2 := by omega
        clear hz q1 q2 q3 hrp hw1 hw2 hy1 hy2
        clear b
        clear MP
        clear PP
        have cA0 := PA.out.at (i := 0) rfl
        have cA1 := PA.out.at (i := 1) rfl
        have cA2 := PA.out.at (i := 2) rfl
        have cB0 := PB.out.at (i := 0) rfl
        have cB1 := PB.out.at (i := 1) rfl
        have cB2 := PB.out.at (i := 2) rfl
        go_wp2_with fail
        clear cA0 cA1 cA2 cB0 cB1 cB2
        by_cases hsm : r = c ∧ c = c2
        · obtain ⟨rfl, rfl⟩ := hsm
          refine (add_yes MA.out MB.out (by omega)).mono ?_
          rintro e w12 ⟨vs, rfl, ms, b⟩
          replace PA := hid (PA.out.step b)
          replace PB := hid (PB.out.step b)
          replace MA := hid (MA.out.now b)
          replace MB := hid (MB.out.now b)
          replace G := hid (below_step G.out b)
          obtain ⟨as1, qs, rfl, -, -⟩ := ms.mx.form
          have MS := hid ms.mx
          clear ms
          clear b
          obtain ⟨ls1, hls⟩ : ∃ ls1, r * r = ls1 := ⟨_, rfl⟩
          have ELS := hid hls
          obtain ⟨zs4, hz4⟩ : ∃ zs4, addL (r * r) xs ys = zs4 := ⟨_, rfl⟩
          have EZ4 := hid hz4
          rw [hz4] at MS
          rw [hls] at MS ⊢
          clear hls hz4
          obtain ⟨V13, hV⟩ : ∃ V13, w12.alloc (.cells #[.int .i64 ((r : Int)), .int .i64 ((r : Int)), .slice as1 ls1 qs] 24) = V13 := ⟨_, rfl⟩
          obtain ⟨b, sz13⟩ := alo1 w12 (.cells #[.int .i64 ((r : Int)), .int .i64 ((r : Int)), .slice as1 ls1 qs] 24)
          rw [hV] at b sz13
          replace PA := hid (PA.out.step b)
          replace PB := hid (PB.out.step b)
          replace MA := hid (MA.out.now b)
          replace MB := hid (MB.out.now b)
          replace MS := hid (MS.out.now b)
          replace G := hid (below_step G.out b)
          clear b sz13
          have PS : Hid (Cel V13 w12.heap.size 24 [.int .i64 ((r : Int)), .int .i64 ((r : Int)), .slice as1 ls1 qs]) := by unfold Hid; rw [← hV]; exact Cel.new w12 _ _
          have cS0 := PS.out.at (i := 0) rfl
          have cS1 := PS.out.at (i := 1) rfl
          have cS2 := PS.out.at (i := 2) rfl
          rw [← hV] at cS0 cS1 cS2
          have EV : Hid (w12.alloc (.cells #[.int .i64 ((r : Int)), .int .i64 ((r : Int)), .slice as1 ls1 qs] 24) = V13) := hV
          clear hV
          go_wp2_with fail
          rw [EV.out]
          clear EV
          clear cS0 cS1 cS2
          refine (rank_yes MS.out (by decide)).mono ?_
          rintro e w14 ⟨rss, css, odds, hz, rfl, b⟩
          replace PA := hid (PA.out.step b)
          replace PB := hid (PB.out.step b)
          replace MA := hid (MA.out.now b)
          replace MB := hid (MB.out.now b)
          replace MS := hid (MS.out.now b)
          replace PS := hid (PS.out.step b)
          replace G := hid (below_step G.out b)
          have HAE : ∀ a b, a < r → b < r → en r zs4 a b = en r xs a b + en r ys a b := by rw [← EZ4.out]; exact add_en
          have q1 : rss.length ≤ rl + rm := by
            rw [← ERa.out, ← ERb.out]
            exact Stz.sum_le 1 1 HZa.out HZb.out hz fun a b ha hb => by rw [HAE a b ha hb]; omega
          have q2 : rl ≤ rss.length + rm := by
            rw [← ERa.out, ← ERb.out]
            exact Stz.sum_le 1 (-1) hz HZb.out HZa.out fun a b ha hb => by rw [HAE a b ha hb]; omega
          have q3 : rm ≤ rss.length + rl := by
            rw [← ERa.out, ← ERb.out]
            exact Stz.sum_le 1 (-1) hz HZa.out HZb.out fun a b ha hb => by rw [HAE a b ha hb]; omega
          obtain ⟨rq, hrq⟩ : ∃ rq, rss.length = rq := ⟨_, rfl⟩
          rw [hrq] at q1 q2 q3 ⊢
          have hw1 : IntKind.i64.wrap ((rl : Int) + (rm : Int)) = (rl : Int) + (rm : Int) := by rw [wrap_is] <;> omega
          have hw2 : IntKind.i64.wrap ((rl : Int) - (rm : Int)) = (rl : Int) - (rm : Int) := by rw [wrap_is] <;> omega
          have hw3 : IntKind.i64.wrap ((rm : Int) - (rl : Int)) = (rm : Int) - (rl : Int) := by rw [wrap_is] <;> omega
          have p1 : (rq : Int) ≤ (rl : Int) + (rm : Int) := by omega
          have p2 : (rl : Int) - (rm : Int) ≤ (rq : Int) := by omega
          have p3 : (rm : Int) - (rl : Int) ≤ (rq : Int) := by omega
          obtain ⟨y1, hy1⟩ : ∃ y1, (rl : Int) + (rm : Int) = y1 := ⟨_, rfl⟩
          obtain ⟨y2, hy2⟩ : ∃ y2, (rl : Int) - (rm : Int) = y2 := ⟨_, rfl⟩
          obtain ⟨y3, hy3⟩ : ∃ y3, (rm : Int) - (rl : Int) = y3 := ⟨_, rfl⟩
          have hw1' : IntKind.i64.wrap ((rl : Int) + (rm : Int)) = y1 := hw1.trans hy1
          have hw2' : IntKind.i64.wrap ((rl : Int) - (rm : Int)) = y2 := hw2.trans hy2
          have hw3' : IntKind.i64.wrap ((rm : Int) - (rl : Int)) = y3 := hw3.trans hy3
          rw [hy1] at p1
          rw [hy2] at p2
          rw [hy3] at p3
          clear hz q1 q2 q3 hrq HAE hw1 hw2 hw3 hy1 hy2 hy3
          clear b
          go_wp2
          go_ret
          exact ⟨rfl, G.out⟩
        · have hsn : r ≠ c ∨ c ≠ c2 := by omega
          refine (add_no MA.out MB.out hsn).mono ?_
          rintro e w15 ⟨rfl, b⟩
          replace PA := hid (PA.out.step b)
          replace PB := hid (PB.out.step b)
          replace MA := hid (MA.out.now b)
          replace MB := hid (MB.out.now b)
          replace G := hid (below_step G.out b)
          clear b
          obtain ⟨V16, hV⟩ : ∃ V16, w15.alloc (.cells #[.int .i64 (0), .int .i64 (0), .slice none 0 0] 24) = V16 := ⟨_, rfl⟩
          obtain ⟨b, sz16⟩ := alo1 w15 (.cells #[.int .i64 (0), .int .i64 (0), .slice none 0 0] 24)
          rw [hV] at b sz16
          replace PA := hid (PA.out.step b)
          replace PB := hid (PB.out.step b)
          replace MA := hid (MA.out.now b)
          replace MB := hid (MB.out.now b)
          replace G := hid (below_step G.out b)
          clear b sz16
          have PS : Hid (Cel V16 w15.heap.size 24 [.int .i64 (0), .int .i64 (0), .slice none 0 0]) := by unfold Hid; rw [← hV]; exact Cel.new w15 _ _
          clear hsn hsm
          have EV : Hid (w15.alloc (.cells #[.int .i64 (0), .int .i64 (0), .slice none 0 0] 24) = V16) := hV
          clear hV
          go_wp2
          rw [EV.out]
          go_ret
          exact ⟨rfl, G.out⟩
      · have hmn : c ≠ r2 := hmm
        refine (mul_no MA.out MB.out hmn).mono ?_
        rintro e w17 ⟨rfl, b⟩
        replace PA := hid (PA.out.step b)
        replace PB := hid (PB.out.step b)
        replace MA := hid (MA.out.now b)
        replace MB := hid (MB.out.now b)
        replace G := hid (below_step G.out b)
        clear b
        obtain ⟨V18, hV⟩ : ∃ V18, w17.alloc (.cells #[.int .i64 (0), .int .i64 (0), .slice none 0 0] 24) = V18 := ⟨_, rfl⟩
        obtain ⟨b, sz18⟩ := alo1 w17 (.cells #[.int .i64 (0), .int .i64 (0), .slice none 0 0] 24)
        rw [hV] at b sz18
        replace PA := hid (PA.out.step b)
        replace PB := hid (PB.out.step b)
        replace MA := hid (MA.out.now b)
        replace MB := hid (MB.out.now b)
        replace G := hid (below_step G.out b)
        clear b sz18
        have PP : Hid (Cel V18 w17.heap.size 24 [.int .i64 (0), .int .i64 (0), .slice none 0 0]) := by unfold Hid; rw [← hV]; exact Cel.new w17 _ _
        clear hmn hmm
        clear PP
        have cA0 := PA.out.at (i := 0) rfl
        have cA1 := PA.out.at (i := 1) rfl
        have cA2 := PA.out.at (i := 2) rfl
        have cB0 := PB.out.at (i := 0) rfl
        have cB1 := PB.out.at (i := 1) rfl
        have cB2 := PB.out.at (i := 2) rfl
        rw [← hV] at cA0 cA1 cA2 cB0 cB1 cB2
        have EV : Hid (w17.alloc (.cells #[.int .i64 (0), .int .i64 (0), .slice none 0 0] 24) = V18) := hV
        clear hV
        go_wp2_with fail
        rw [EV.out]
        clear EV
        clear cA0 cA1 cA2 cB0 cB1 cB2
        by_cases hsm : r = r2 ∧ c = c2
        · obtain ⟨rfl, rfl⟩ := hsm
          refine (add_yes MA.out MB.out (by omega)).mono ?_
          rintro e w19 ⟨vs, rfl, ms, b⟩
          replace PA := hid (PA.out.step b)
          replace PB := hid (PB.out.step b)
          replace MA := hid (MA.out.now b)
          replace MB := hid (MB.out.now b)
          replace G := hid (below_step G.out b)
          obtain ⟨as1, qs, rfl, -, -⟩ := ms.mx.form
          have MS := hid ms.mx
          clear ms
          clear b
          obtain ⟨ls1, hls⟩ : ∃ ls1, r * c = ls1 := ⟨_, rfl⟩
          have ELS := hid hls
          obtain ⟨zs4, hz4⟩ : ∃ zs4, addL (r * c) xs ys = zs4 := ⟨_, rfl⟩
          have EZ4 := hid hz4
          rw [hz4] at MS
          rw [hls] at MS ⊢
          clear hls hz4
          obtain ⟨V20, hV⟩ : ∃ V20, w19.alloc (.cells #[.int .i64 ((r : Int)), .int .i64 ((c : Int)), .slice as1 ls1 qs] 24) = V20 := ⟨_, rfl⟩
          obtain ⟨b, sz20⟩ := alo1 w19 (.cells #[.int .i64 ((r : Int)), .int .i64 ((c : Int)), .slice as1 ls1 qs] 24)
          rw [hV] at b sz20
          replace PA := hid (PA.out.step b)
          replace PB := hid (PB.out.step b)
          replace MA := hid (MA.out.now b)
          replace MB := hid (MB.out.now b)
          replace MS := hid (MS.out.now b)
          replace G := hid (below_step G.out b)
          clear b sz20
          have PS : Hid (Cel V20 w19.heap.size 24 [.int .i64 ((r : Int)), .int .i64 ((c : Int)), .slice as1 ls1 qs]) := by unfold Hid; rw [← hV]; exact Cel.new w19 _ _
          have cS0 := PS.out.at (i := 0) rfl
          have cS1 := PS.out.at (i := 1) rfl
          have cS2 := PS.out.at (i := 2) rfl
          rw [← hV] at cS0 cS1 cS2
          have EV : Hid (w19.alloc (.cells #[.int .i64 ((r : Int)), .int .i64 ((c : Int)), .slice as1 ls1 qs] 24) = V20) := hV
          clear hV
          go_wp2_with fail
          rw [EV.out]
          clear EV
          clear cS0 cS1 cS2
          refine (rank_yes MS.out (by decide)).mono ?_
          rintro e w21 ⟨rss, css, odds, hz, rfl, b⟩
          replace PA := hid (PA.out.step b)
          replace PB := hid (PB.out.step b)
          replace MA := hid (MA.out.now b)
          replace MB := hid (MB.out.now b)
          replace MS := hid (MS.out.now b)
          replace PS := hid (PS.out.step b)
          replace G := hid (below_step G.out b)
          have HAE : ∀ a b, a < r → b < c → en c zs4 a b = en c xs a b + en c ys a b := by rw [← EZ4.out]; exact add_en
          have q1 : rss.length ≤ rl + rm := by
            rw [← ERa.out, ← ERb.out]
            exact Stz.sum_le 1 1 HZa.out HZb.out hz fun a b ha hb => by rw [HAE a b ha hb]; omega
          have q2 : rl ≤ rss.length + rm := by
            rw [← ERa.out, ← ERb.out]
            exact Stz.sum_le 1 (-1) hz HZb.out HZa.out fun a b ha hb => by rw [HAE a b ha hb]; omega
          have q3 : rm ≤ rss.length + rl := by
            rw [← ERa.out, ← ERb.out]
            exact Stz.sum_le 1 (-1) hz HZa.out HZb.out fun a b ha hb => by rw [HAE a b ha hb]; omega
          obtain ⟨rq, hrq⟩ : ∃ rq, rss.length = rq := ⟨_, rfl⟩
          rw [hrq] at q1 q2 q3 ⊢
          have hw1 : IntKind.i64.wrap ((rl : Int) + (rm : Int)) = (rl : Int) + (rm : Int) := by rw [wrap_is] <;> omega
          have hw2 : IntKind.i64.wrap ((rl : Int) - (rm : Int)) = (rl : Int) - (rm : Int) := by rw [wrap_is] <;> omega
          have hw3 : IntKind.i64.wrap ((rm : Int) - (rl : Int)) = (rm : Int) - (rl : Int) := by rw [wrap_is] <;> omega
          have p1 : (rq : Int) ≤ (rl : Int) + (rm : Int) := by omega
          have p2 : (rl : Int) - (rm : Int) ≤ (rq : Int) := by omega
          have p3 : (rm : Int) - (rl : Int) ≤ (rq : Int) := by omega
          obtain ⟨y1, hy1⟩ : ∃ y1, (rl : Int) + (rm : Int) = y1 := ⟨_, rfl⟩
          obtain ⟨y2, hy2⟩ : ∃ y2, (rl : Int) - (rm : Int) = y2 := ⟨_, rfl⟩
          obtain ⟨y3, hy3⟩ : ∃ y3, (rm : Int) - (rl : Int) = y3 := ⟨_, rfl⟩
          have hw1' : IntKind.i64.wrap ((rl : Int) + (rm : Int)) = y1 := hw1.trans hy1
          have hw2' : IntKind.i64.wrap ((rl : Int) - (rm : Int)) = y2 := hw2.trans hy2
          have hw3' : IntKind.i64.wrap ((rm : Int) - (rl : Int)) = y3 := hw3.trans hy3
          rw [hy1] at p1
          rw [hy2] at p2
          rw [hy3] at p3
          clear hz q1 q2 q3 hrq HAE hw1 hw2 hw3 hy1 hy2 hy3
          clear b
          go_wp2
          go_ret
          exact ⟨rfl, G.out⟩
        · have hsn : r ≠ r2 ∨ c ≠ c2 := by omega
          refine (add_no MA.out MB.out hsn).mono ?_
          rintro e w22 ⟨rfl, b⟩
          replace PA := hid (PA.out.step b)
          replace PB := hid (PB.out.step b)
          replace MA := hid (MA.out.now b)
          replace MB := hid (MB.out.now b)
          replace G := hid (below_step G.out b)
          clear b
          obtain ⟨V23, hV⟩ : ∃ V23, w22.alloc (.cells #[.int .i64 (0), .int .i64 (0), .slice none 0 0] 24) = V23 := ⟨_, rfl⟩
          obtain ⟨b, sz23⟩ := alo1 w22 (.cells #[.int .i64 (0), .int .i64 (0), .slice none 0 0] 24)
          rw [hV] at b sz23
          replace PA := hid (PA.out.step b)
          replace PB := hid (PB.out.step b)
          replace MA := hid (MA.out.now b)
          replace MB := hid (MB.out.now b)
          replace G := hid (below_step G.out b)
          clear b sz23
          have PS : Hid (Cel V23 w22.heap.size 24 [.int .i64 (0), .int .i64 (0), .slice none 0 0]) := by unfold Hid; rw [← hV]; exact Cel.new w22 _ _
          clear hsn hsm
          have EV : Hid (w22.alloc (.cells #[.int .i64 (0), .int .i64 (0), .slice none 0 0] 24) = V23) := hV
          clear hV
          go_wp2
          rw [EV.out]
          go_ret
          exact ⟨rfl, G.out⟩
    · have hsb2 := hid hsb
      clear RB
      refine (rank_yes MA.out (by decide)).mono ?_
      rintro e w24 ⟨rsa, csa, odda, hz, rfl, b⟩
      replace PA := hid (PA.out.step b)
      replace PB := hid (PB.out.step b)
      replace MA := hid (MA.out.now b)
      replace G := hid (below_step G.out b)
      have HZa := hid hz
      obtain ⟨rl, hrl⟩ : ∃ rl, rsa.length = rl := ⟨_, rfl⟩
      rw [hrl]
      have ERa := hid hrl
      have HTa := hid hz.tall
      have HWa := hid hz.wide
      rw [hrl] at HTa HWa
      clear hz hrl
      clear b
      have cB0 := PB.out.at (i := 0) rfl
      have cB1 := PB.out.at (i := 1) rfl
      have cB2 := PB.out.at (i := 2) rfl
      go_wp2_with fail
      clear cB0 cB1 cB2
      refine (rank_un hsb).mono ?_
      rintro e w25 ⟨rfl, b⟩
      replace PA := hid (PA.out.step b)
      replace PB := hid (PB.out.step b)
      replace MA := hid (MA.out.now b)
      replace G := hid (below_step G.out b)
      clear b
      go_wp2_with fail
      refine (awake13 _).mono ?_
      rintro e w26 ⟨rfl, b⟩
      replace PA := hid (PA.out.step b)
      replace PB := hid (PB.out.step b)
      replace MA := hid (MA.out.now b)
      replace G := hid (below_step G.out b)
      clear b
      have cA0 := PA.out.at (i := 0) rfl
      have cA1 := PA.out.at (i := 1) rfl
      have cA2 := PA.out.at (i := 2) rfl
      go_wp2_with fail
      clear cA0 cA1 cA2
      refine (check_yes MA.out).mono ?_
      rintro e w27 ⟨rfl, b⟩
      replace PA := hid (PA.out.step b)
      replace PB := hid (PB.out.step b)
      replace MA := hid (MA.out.now b)
      replace G := hid (below_step G.out b)
      clear b
      have cB0 := PB.out.at (i := 0) rfl
      have cB1 := PB.out.at (i := 1) rfl
      have cB2 := PB.out.at (i := 2) rfl
      go_wp2_with fail
      clear cB0 cB1 cB2
      refine (check_no hsb).mono ?_
      rintro e w28 ⟨rfl, b⟩
      replace PA := hid (PA.out.step b)
      replace PB := hid (PB.out.step b)
      replace MA := hid (MA.out.now b)
      replace G := hid (below_step G.out b)
      clear b
      have cA0 := PA.out.at (i := 0) rfl
      have cA1 := PA.out.at (i := 1) rfl
      have cA2 := PA.out.at (i := 2) rfl
      go_wp2_with fail
      clear cA0 cA1 cA2
      refine (check_yes MA.out).mono ?_
      rintro e w29 ⟨rfl, b⟩
      replace PA := hid (PA.out.step b)
      replace PB := hid (PB.out.step b)
      replace MA := hid (MA.out.now b)
      replace G := hid (below_step G.out b)
      clear b
      have cB0 := PB.out.at (i := 0) rfl
      have cB1 := PB.out.at (i := 1) rfl
      have cB2 := PB.out.at (i := 2) rfl
      go_wp2_with fail
      clear cB0 cB1 cB2
      refine (check_no hsb).mono ?_
      rintro e w30 ⟨rfl, b⟩
      replace PA := hid (PA.out.step b)
      replace PB := hid (PB.out.step b)
      replace MA := hid (MA.out.now b)
      replace G := hid (below_step G.out b)
      clear b
      go_wp2
      go_ret
      exact ⟨rfl, G.out⟩
  · have hsa2 := hid hsa
    clear RA
    by_cases hsb : Snd rb cb lb
    · obtain ⟨r2, c2, rfl, rfl⟩ := snd13 hsb
      obtain ⟨mb, -⟩ := RB.out.mx13 hsb
      have MB := hid mb
      clear mb hsb
      have hr264 : r2 ≤ 64 := by obtain ⟨_, _, _, _, _, _, h, _⟩ := MB.out; exact h
      have hc264 : c2 ≤ 64 := by obtain ⟨_, _, _, _, _, _, _, h⟩ := MB.out; exact h
      clear RB
      refine (rank_un hsa).mono ?_
      rintro e w31 ⟨rfl, b⟩
      replace PA := hid (PA.out.step b)
      replace PB := hid (PB.out.step b)
      replace MB := hid (MB.out.now b)
      replace G := hid (below_step G.out b)
      clear b
      have cB0 := PB.out.at (i := 0) rfl
      have cB1 := PB.out.at (i := 1) rfl
      have cB2 := PB.out.at (i := 2) rfl
      go_wp2_with fail
      clear cB0 cB1 cB2
      refine (rank_yes MB.out (by decide)).mono ?_
      rintro e w32 ⟨rsb, csb, oddb, hz, rfl, b⟩
      replace PA := hid (PA.out.step b)
      replace PB := hid (PB.out.step b)
      replace MB := hid (MB.out.now b)
      replace G := hid (below_step G.out b)
      have HZb := hid hz
      obtain ⟨rm, hrl⟩ : ∃ rm, rsb.length = rm := ⟨_, rfl⟩
      rw [hrl]
      have ERb := hid hrl
      have HTb := hid hz.tall
      have HWb := hid hz.wide
      rw [hrl] at HTb HWb
      clear hz hrl
      clear b
      go_wp2_with fail
      refine (awake13 _).mono ?_
      rintro e w33 ⟨rfl, b⟩
      replace PA := hid (PA.out.step b)
      replace PB := hid (PB.out.step b)
      replace MB := hid (MB.out.now b)
      replace G := hid (below_step G.out b)
      clear b
      have cA0 := PA.out.at (i := 0) rfl
      have cA1 := PA.out.at (i := 1) rfl
      have cA2 := PA.out.at (i := 2) rfl
      go_wp2_with fail
      clear cA0 cA1 cA2
      refine (check_no hsa).mono ?_
      rintro e w34 ⟨rfl, b⟩
      replace PA := hid (PA.out.step b)
      replace PB := hid (PB.out.step b)
      replace MB := hid (MB.out.now b)
      replace G := hid (below_step G.out b)
      clear b
      have cA0 := PA.out.at (i := 0) rfl
      have cA1 := PA.out.at (i := 1) rfl
      have cA2 := PA.out.at (i := 2) rfl
      go_wp2_with fail
      clear cA0 cA1 cA2
      refine (check_no hsa).mono ?_
      rintro e w35 ⟨rfl, b⟩
      replace PA := hid (PA.out.step b)
      replace PB := hid (PB.out.step b)
      replace MB := hid (MB.out.now b)
      replace G := hid (below_step G.out b)
      clear b
      have cB0 := PB.out.at (i := 0) rfl
      have cB1 := PB.out.at (i := 1) rfl
      have cB2 := PB.out.at (i := 2) rfl
      go_wp2_with fail
      clear cB0 cB1 cB2
      refine (check_yes MB.out).mono ?_
      rintro e w36 ⟨rfl, b⟩
      replace PA := hid (PA.out.step b)
      replace PB := hid (PB.out.step b)
      replace MB := hid (MB.out.now b)
      replace G := hid (below_step G.out b)
      clear b
      go_wp2
      go_ret
      exact ⟨rfl, G.out⟩
    · have hsb2 := hid hsb
      clear RB
      refine (rank_un hsa).mono ?_
      rintro e w37 ⟨rfl, b⟩
      replace PA := hid (PA.out.step b)
      replace PB := hid (PB.out.step b)
      replace G := hid (below_step G.out b)
      clear b
      have cB0 := PB.out.at (i := 0) rfl
      have cB1 := PB.out.at (i := 1) rfl
      have cB2 := PB.out.at (i := 2) rfl
      go_wp2_with fail
      clear cB0 cB1 cB2
      refine (rank_un hsb).mono ?_
      rintro e w38 ⟨rfl, b⟩
      replace PA := hid (PA.out.step b)
      replace PB := hid (PB.out.step b)
      replace G := hid (below_step G.out b)
      clear b
      go_wp2_with fail
      refine (awake13 _).mono ?_
      rintro e w39 ⟨rfl, b⟩
      replace PA := hid (PA.out.step b)
      replace PB := hid (PB.out.step b)
      replace G := hid (below_step G.out b)
      clear b
      have cA0 := PA.out.at (i := 0) rfl
      have cA1 := PA.out.at (i := 1) rfl
      have cA2 := PA.out.at (i := 2) rfl
      go_wp2_with fail
      clear cA0 cA1 cA2
      refine (check_no hsa).mono ?_
      rintro e w40 ⟨rfl, b⟩
      replace PA := hid (PA.out.step b)
      replace PB := hid (PB.out.step b)
      replace G := hid (below_step G.out b)
      clear b
      have cA0 := PA.out.at (i := 0) rfl
      have cA1 := PA.out.at (i := 1) rfl
      have cA2 := PA.out.at (i := 2) rfl
      go_wp2_with fail
      clear cA0 cA1 cA2
      refine (check_no hsa).mono ?_
      rintro e w41 ⟨rfl, b⟩
      replace PA := hid (PA.out.step b)
      replace PB := hid (PB.out.step b)
      replace G := hid (below_step G.out b)
      clear b
      have cB0 := PB.out.at (i := 0) rfl
      have cB1 := PB.out.at (i := 1) rfl
      have cB2 := PB.out.at (i := 2) rfl
      go_wp2_with fail
      clear cB0 cB1 cB2
      refine (check_no hsb).mono ?_
      rintro e w42 ⟨rfl, b⟩
      replace PA := hid (PA.out.step b)
      replace PB := hid (PB.out.step b)
      replace G := hid (below_step G.out b)
      clear b
      go_wp2
      go_ret
      exact ⟨rfl, G.out⟩
end Go.Proofs.YtlhbcdapinacgaaGreat
