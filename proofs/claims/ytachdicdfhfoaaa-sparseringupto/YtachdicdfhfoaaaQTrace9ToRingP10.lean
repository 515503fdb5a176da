/-
  QTrace9ToRingP10: Trace9, TurnP9, ChkN9, RingP10, joined.
-/
import Derived.Test.YtachdicdfhfoaaaQTurn9
import Derived.Test.YtachdicdfhfoaaaQLaw9ToOpenM9
import Derived.Test.YtachdicdfhfoaaaQOf10
import Derived.Test.YtachdicdfhfoaaaQDense10
import Derived.Test.YtachdicdfhfoaaaQMul10
import Derived.Test.YtachdicdfhfoaaaQTurn10ToWk9

/- Trace9 -/
namespace Go.Proofs.Ytachdicdfhfoaaa
open Go.RowKit
set_option linter.unusedVariables false

theorem mat_int_boxes {w W0 : World} {o1 : List Value} (hW : (w.alloc (.cells o1.toArray 24)).alloc zbox = W0) :
    Cel W0 w.heap.size 24 o1 ∧ Duo W0 (w.heap.size + 1) (.bool false) (.slice none 0 0) := by
  refine ⟨?_, ?_⟩
  · rw [← hW]
    exact (Cel.new w 24 o1).step ((Below.refl _ _).alloc (Nat.le_refl _) _)
  · rw [← hW]
    have := Duo.new (w.alloc (.cells o1.toArray 24)) (.bool false) (.slice none 0 0)
    simpa using this
def diagL {α : Type} (n : Nat) (ps : List α) (z : α) (i : Nat) : List α := (List.range i).map fun t => ps.getD (t * n + t) z
theorem diagL_succ {α : Type} {n i : Nat} {ps : List α} {z : α} : diagL n ps z (i + 1) = diagL n ps z i ++ [ps.getD (i * n + i) z] := by simp [diagL, List.range_succ]
theorem diagL_length {α : Type} {n i : Nat} {ps : List α} {z : α} : (diagL n ps z i).length = i := by simp [diagL]
def traceL (n : Nat) (zs : List Int) : Int := zsum (diagL n zs 0 n)
theorem zis_diag {w : World} {ps : List (Value × Value)} {zs : List Int} {k n : Nat} (h : Zis w ps zs k) (hl : zs.length = n * n) : Zis w (diagL n ps zpair n) (diagL n zs 0 n) k := by
  refine ⟨by simp [diagL_length], fun t p z hp hz => ?_⟩
  have ht : t < n := by simpa [diagL] using (List.getElem?_eq_some_iff.1 hp).1
  have h7 : t * n + t < zs.length := by rw [hl]; exact place_lt ht ht
  have h8 : t * n + t < ps.length := by rw [h.1]; exact h7
  have e3 : p = ps[t * n + t] := by simp [diagL, ht, h8] at hp; exact hp.symm
  have e4 : z = zs[t * n + t] := by simp [diagL, ht, h7] at hz; exact hz.symm
  rw [e3, e4]
  exact h.2 _ _ _ (List.getElem?_eq_getElem h8) (List.getElem?_eq_getElem h7)
def TraceH (w2 : World) (n : Nat) (ps : List (Value × Value)) (gk : Nat) (s5 s17 : Value) (wx : World) : Prop := ∃ i : Nat, s17 = .int .i64 (i : Int) ∧ i ≤ n ∧ gk = n - i ∧ OwnP w2.heap.size wx s5 (diagL n ps zpair i) ∧ Below w2.heap.size w2 wx
end Go.Proofs.Ytachdicdfhfoaaa

/- TurnP9 -/
namespace Go.Proofs.Ytachdicdfhfoaaa
set_option linter.unusedVariables false

theorem turn_at {r c i j : Nat} {zs : List Int} (hi : i < r) (hj : j < c) : (turnL9 r c zs).getD (j * r + i) 0 = zs.getD (i * c + j) 0 := by
  unfold turnL9
  rw [flat_getD hi cols_len (by simp [colsL]; exact hj)]
  have e1 : (colsL r c zs 0).getD j [] = colL c zs 0 r j := by simp [colsL, hj]
  rw [e1]
  simp [colL, hi]
theorem turn_turn {r c : Nat} {zs : List Int} (hl : zs.length = r * c) : turnL9 c r (turnL9 r c zs) = zs := by
  refine mat_ext (r := r) (c := c) turnL9_length hl (fun i j hi hj => ?_)
  rw [turn_at hj hi, turn_at hi hj]
theorem turn_prod {r m c : Nat} {xs ys : List Int} (hx : xs.length = r * m) : turnL9 r c (prodL r m c xs ys) = prodL c m r (turnL9 m c ys) (turnL9 r m xs) := by
  refine mat_ext (r := c) (c := r) turnL9_length prodL_length (fun j i hj hi => ?_)
  rw [turn_at hi hj, prod_at hx hi hj, prod_at turnL9_length hj hi]
  refine sumN_congr (fun t ht => ?_)
  rw [turn_at ht hj, turn_at hi ht, Int.mul_comm]
theorem trace_sum {n : Nat} {zs : List Int} : traceL n zs = sumN n (fun t => zs.getD (t * n + t) 0) := rfl
theorem trace_prod {r m : Nat} {xs ys : List Int} (hx : xs.length = r * m) (hy : ys.length = m * r) : traceL r (prodL r m r xs ys) = traceL m (prodL m r m ys xs) := by
  rw [trace_sum, trace_sum, sumN_congr (fun i hi => prod_at hx hi hi), sumN_congr (fun t ht => prod_at hy ht ht), sumN_swap]
  exact sumN_congr (fun t _ => sumN_congr (fun i _ => Int.mul_comm _ _))
end Go.Proofs.Ytachdicdfhfoaaa

/- ChkN9 -/
namespace Go.Proofs.Ytachdicdfhfoaaa
open Go.RowKit
set_option linter.unusedVariables false

set_option maxHeartbeats 800000 in
set_option maxRecDepth 100000 in
theorem isShape_raw {w : World} {r c : Int} : Calls Try.prog 48 #[.int .i64 r, .int .i64 c] w fun e w' => e = .returned (.bool (decide (0 ≤ r ∧ 0 ≤ c ∧ r ≤ 64 ∧ c ≤ 64))) ∧ w' = w := by
  by_cases h1 : 0 ≤ min r c
  · by_cases h2 : max r c ≤ 64
    · have e : decide (0 ≤ r ∧ 0 ≤ c ∧ r ≤ 64 ∧ c ≤ 64) = true := by rw [decide_eq_true_eq]; omega
      rw [e]
      clear e
      go_enter Try.func48, Try.ntmps48
      go_wp2
      go_ret
      exact ⟨rfl, rfl⟩
    · have e : decide (0 ≤ r ∧ 0 ≤ c ∧ r ≤ 64 ∧ c ≤ 64) = false := by rw [decide_eq_false_iff_not]; omega
      rw [e]
      clear e
      go_enter Try.func48, Try.ntmps48
      go_wp2
      go_ret
      exact ⟨rfl, rfl⟩
  · have e : decide (0 ≤ r ∧ 0 ≤ c ∧ r ≤ 64 ∧ c ≤ 64) = false := by rw [decide_eq_false_iff_not]; omega
    rw [e]
    clear e
    go_enter Try.func48, Try.ntmps48
    go_wp2
    go_ret
    exact ⟨rfl, rfl⟩
set_option maxHeartbeats 1600000 in
set_option maxRecDepth 100000 in
theorem check_no {w : World} {r c : Int} {a : Option Addr} {l cap : Nat} (h : ¬ Snd r c l) : Calls Try.prog 16 #[.agg #[.int .i64 r, .int .i64 c, .slice a l cap]] w fun e w' => e = .returned (.int .i64 1) ∧ Below w.heap.size w w' := by
  obtain ⟨W0, hW⟩ : ∃ W0, w.alloc (.cells #[.int .i64 r, .int .i64 c, .slice a l cap] 24) = W0 := ⟨_, rfl⟩
  obtain ⟨b0, sz0⟩ := alo1 w (.cells #[.int .i64 r, .int .i64 c, .slice a l cap] 24)
  rw [hW] at b0 sz0
  have P1 : Hid (Cel W0 w.heap.size 24 [.int .i64 r, .int .i64 c, .slice a l cap]) := by unfold Hid; rw [← hW]; exact Cel.new w _ _
  have x0 := P1.out.at (i := 0) rfl
  have x1 := P1.out.at (i := 1) rfl
  have x2 := P1.out.at (i := 2) rfl
  rw [← hW] at x0 x1 x2
  have HS := hid (isShape_raw (w := W0) (r := r) (c := c))
  have G0 := hid b0
  have EW := hid hW
  clear b0 sz0 hW P1
  by_cases hs : 0 ≤ r ∧ 0 ≤ c ∧ r ≤ 64 ∧ c ≤ 64
  · have e : decide (0 ≤ r ∧ 0 ≤ c ∧ r ≤ 64 ∧ c ≤ 64) = true := decide_eq_true hs
    rw [e] at HS
    have hm : 0 ≤ r * c ∧ r * c ≤ 64 * 64 := ⟨Int.mul_nonneg hs.1 hs.2.1, Int.mul_le_mul hs.2.2.1 hs.2.2.2 hs.2.1 (by omega)⟩
    have hw : IntKind.i64.wrap (r * c) = r * c := by rw [wrap_is] <;> omega
    obtain ⟨q, hq⟩ : ∃ q, r * c = q := ⟨_, rfl⟩
    have hne : ¬ ((l : Int) = q) := fun h2 => h ⟨hs.1, hs.2.2.1, hs.2.1, hs.2.2.2, h2.trans hq.symm⟩
    replace hw : IntKind.i64.wrap (r * c) = q := hw.trans hq
    have hw2 := hw
    rw [IntKind.wrap_i64] at hw2
    have q0 : ((l : Int) != q) = true := by simpa using hne
    clear h hs e hm hq hne
    go_enter Try.func16, Try.ntmps16
    go_wp2_with fail
    rw [EW.out]
    refine HS.out.mono ?_
    rintro e w1 ⟨rfl, rfl⟩
    rw [EW.out] at x0 x1 x2
    go_wp2
    go_ret
    exact ⟨rfl, G0.out⟩
  · have e : decide (0 ≤ r ∧ 0 ≤ c ∧ r ≤ 64 ∧ c ≤ 64) = false := decide_eq_false hs
    rw [e] at HS
    clear h hs e
    go_enter Try.func16, Try.ntmps16
    go_wp2_with fail
    rw [EW.out]
    refine HS.out.mono ?_
    rintro e w1 ⟨rfl, rfl⟩
    go_wp2
    go_ret
    exact ⟨rfl, G0.out⟩
set_option maxHeartbeats 1600000 in
set_option maxRecDepth 100000 in
theorem least_no {w : World} {r c : Int} {a : Option Addr} {l cap : Nat} (h : ¬ Snd r c l) : Calls Try.prog 8 #[.agg #[.int .i64 r, .int .i64 c, .slice a l cap]] w (GivesME w 1) := by
  obtain ⟨W0, hW⟩ : ∃ W0, (w.alloc (.cells #[.int .i64 r, .int .i64 c, .slice a l cap] 24)).alloc mbox = W0 := ⟨_, rfl⟩
  obtain ⟨b0, sz0⟩ := alloc2 w (.cells #[.int .i64 r, .int .i64 c, .slice a l cap] 24) mbox
  rw [hW] at b0 sz0
  obtain ⟨pa, pr⟩ := two_boxes (o1 := [.int .i64 r, .int .i64 c, .slice a l cap]) hW
  have HCK := hid (check_no (w := W0) (a := a) (cap := cap) h)
  have x0 := pa.at (i := 0) rfl
  have x1 := pa.at (i := 1) rfl
  have x2 := pa.at (i := 2) rfl
  rw [← hW] at x0 x1 x2
  have PR := hid pr
  have G0 := hid b0
  have EW := hid hW
  clear b0 sz0 hW pa pr h
  go_enter Try.func8, Try.ntmps8
  go_wp2_with fail
  rw [EW.out]
  refine HCK.out.mono ?_
  rintro e w1 ⟨rfl, b⟩
  have PR1 := hid (PR.out.step b)
  have G1 := hid (below_step G0.out b)
  have r0 := PR1.out.at (i := 0) rfl
  have r1 := PR1.out.at (i := 1) rfl
  have r2 := PR1.out.at (i := 2) rfl
  have f0 := PR1.out.fz 0
  have f1 := PR1.out.fz 1
  have f2 := PR1.out.fz 2
  have FIN : Hid (GivesME w 1 (.returned (.tuple #[mzero, .int .i64 1])) (put3 w1 (w.heap.size + 1) (.int .i64 0) (.int .i64 0) (.slice none 0 0))) := ⟨rfl, below_put3 G1.out (by omega) _ _ _⟩
  have PF := hid (PR1.out.put3 (.int .i64 0) (.int .i64 0) (.slice none 0 0))
  clear HCK b x0 x1 x2 EW PR G0 G1
  go_wp2
  exact bodyPost_ret (mback1 Try.results8 PF.out _ (by rfl) (by rfl)) rfl FIN.out
set_option maxHeartbeats 1600000 in
set_option maxRecDepth 100000 in
theorem least_yes9 {w : World} {v : Value} {r c : Nat} {zs : List Int} {k : Nat} (h : Mx w v r c zs k) : Calls Try.prog 8 #[v] w (GivesMO w r c zs k) := by
  have M0 := hid h
  obtain ⟨aa, ca, rfl, hr, hc⟩ := h.form
  obtain ⟨la, hla⟩ : ∃ la, r * c = la := ⟨_, rfl⟩
  rw [hla] at M0 ⊢
  obtain ⟨W0, hW⟩ : ∃ W0, (w.alloc (matO r c (.slice aa la ca))).alloc mbox = W0 := ⟨_, rfl⟩
  obtain ⟨b0, sz0⟩ := alloc2 w (matO r c (.slice aa la ca)) mbox
  rw [hW] at b0 sz0
  obtain ⟨pa, pr⟩ := two_boxes (o1 := matc r c (.slice aa la ca)) hW
  have HCK := hid (check_yes (M0.out.now b0))
  have x0 := pa.at (i := 0) rfl
  have x1 := pa.at (i := 1) rfl
  have x2 := pa.at (i := 2) rfl
  rw [← hW] at x0 x1 x2
  have PA := hid pa
  have PR := hid pr
  have G0 := hid b0
  have EW := hid hW
  replace M0 := hid (M0.out.now b0)
  have HRC := hid hla
  clear h hla b0 sz0 hW pa pr
  go_enter Try.func8, Try.ntmps8
  go_wp2_with fail
  rw [EW.out]
  refine HCK.out.mono ?_
  rintro e w1 ⟨rfl, b⟩
  have HLE := hid (least9_any (M0.out.now b))
  have PR1 := hid (PR.out.step b)
  have G1 := hid (below_step G0.out b)
  have z0 := (PA.out.step b).at (i := 0) rfl
  have z1 := (PA.out.step b).at (i := 1) rfl
  have z2 := (PA.out.step b).at (i := 2) rfl
  clear HCK b x0 x1 x2 EW PA PR G0 M0
  go_wp2_with fail
  refine HLE.out.mono ?_
  rintro e w3 ⟨v3, rfl, hm3, b⟩
  obtain ⟨a3, q3, rfl, -, -⟩ := hm3.mx.form
  rw [HRC.out] at hm3 ⊢
  have PR3 := hid (PR1.out.step b)
  have G3 := hid (below_step G1.out b)
  have FIN : Hid (GivesMO w r c zs k (.returned (.tuple #[.agg #[.int .i64 (r : Int), .int .i64 (c : Int), .slice a3 la q3], .int .i64 0])) (put3 w3 (w.heap.size + 1) (.int .i64 (r : Int)) (.int .i64 (c : Int)) (.slice a3 la q3))) :=
    ⟨_, rfl, hm3.wk PR3.out _ _ _, below_put3 G3.out (by omega) _ _ _⟩
  have PF := hid (PR3.out.put3 (.int .i64 (r : Int)) (.int .i64 (c : Int)) (.slice a3 la q3))
  have r0 := PR3.out.at (i := 0) rfl
  have r1 := PR3.out.at (i := 1) rfl
  have r2 := PR3.out.at (i := 2) rfl
  have f0 := PR3.out.fz 0
  have f1 := PR3.out.fz 1
  have f2 := PR3.out.fz 2
  clear HLE hm3 b PR1 G1 z0 z1 z2
  go_wp2
  exact bodyPost_ret (mback1 Try.results8 PF.out _ (by rfl) (by rfl)) rfl FIN.out
end Go.Proofs.Ytachdicdfhfoaaa

/- RingP10 -/
namespace Go.Proofs.Ytachdicdfhfoaaa
open Go.RowKit Go.ChangeMaps Go.MapKept
set_option linter.unusedVariables false

theorem dn_at {r c i j : Nat} {F : Nat → Nat → Int} (hi : i < r) (hj : j < c) : (dnL r c F).getD (i * c + j) 0 = F i j := by
  have hc : 0 < c := by omega
  have e1 : (i * c + j) / c = i := by rw [Nat.mul_comm, Nat.mul_add_div hc, Nat.div_eq_of_lt hj]; rfl
  have e3 : (i * c + j) % c = j := by rw [Nat.mul_comm, Nat.mul_add_mod, Nat.mod_eq_of_lt hj]
  have hl : i * c + j < (dnL r c F).length := by rw [dnL_length]; exact place_lt hi hj
  rw [List.getD_eq_getElem?_getD, List.getElem?_eq_getElem hl]
  simp [dnL, e1, e3]
theorem of_at {r c i j : Nat} {zs : List Int} (hi : i < r) (hj : j < c) : ofF c zs (r * c) i j = zs.getD (i * c + j) 0 := by
  unfold ofF
  rw [if_pos ⟨hj, place_lt hi hj⟩]
theorem dn_mul {r m c : Nat} {xs ys : List Int} (hx : xs.length = r * m) : dnL r c (piS m (fun _ => false) (ofF m xs (r * m)) (ofF c ys (m * c))) = prodL r m c xs ys := by
  refine mat_ext (dnL_length _ _ _) prodL_length (fun i j hi hj => ?_)
  rw [dn_at hi hj, prod_at hx hi hj]
  unfold piS
  refine sumN_congr (fun t ht => ?_)
  rw [if_neg (by simp), of_at hi ht, of_at ht hj]
theorem dn_add {r c : Nat} {xs ys : List Int} : dnL r c (fun i j => ofF c xs (r * c) i j + ofF c ys (r * c) i j) = addL (r * c) xs ys := by
  refine mat_ext (dnL_length _ _ _) addL_length (fun i j hi hj => ?_)
  rw [dn_at hi hj, add_at (place_lt hi hj), of_at hi hj, of_at hi hj]
theorem dn_turn {r c : Nat} {xs : List Int} : dnL c r (fun i j => ofF c xs (r * c) j i) = turnL9 r c xs := by
  refine mat_ext (dnL_length _ _ _) turnL9_length (fun i j hi hj => ?_)
  rw [dn_at hi hj, turn_at hj hi, of_at hj hi]
theorem Gq.off3 {w : World} {g b r c k x : Nat} {F : Nat → Nat → Int} {L : List Value} (h : Gq w g b r c F k) (d : Cel w x 24 L) (y0 y1 y2 : Value) : Gq (put3 w x y0 y1 y2) g b r c F k := by
  obtain ⟨f, n, h1, h2, h3, h4⟩ := h
  have hg : x ≠ g := fun e => by
    subst e
    have := (show w.heap[x]? = _ from d).symm.trans h1.1
    simp at this
  have hb : b ≠ x := fun e => by
    subst e
    obtain ⟨es, cl, q, -⟩ := h2
    have := (show w.heap[b]? = _ from d).symm.trans q
    simp at this
  have d1 := d.set 0 y0
  have d2 := d1.set 1 y1
  have ty := ((Ty.set (i := 0) (u := y0) d).trans (Ty.set (i := 1) (u := y1) d1)).trans (Ty.set (i := 2) (u := y2) d2)
  refine ⟨f, n, ⟨((h1.1.ne hg).ne hg).ne hg, h1.2⟩, h2.keep ?_, h3.ty ty (by decide), h4⟩
  rw [Below.heap_setCell _ _ _ b (fun e => hb (by simpa using e)), Below.heap_setCell _ _ _ b (fun e => hb (by simpa using e)), Below.heap_setCell _ _ _ b (fun e => hb (by simpa using e))]
theorem mc_zero (w : World) (k : Nat) : Mc w mzero 0 0 [] k := ⟨.slice none 0 0, [], rfl, Prs.nil _ _, ⟨rfl, fun j p z h => by simp at h⟩, rfl, by omega, by omega⟩
set_option maxHeartbeats 1600000 in
set_option maxRecDepth 100000 in
theorem of_no {w : World} {r c : Int} {a : Option Addr} {l cap : Nat} (h : ¬ Snd r c l) : Calls Try.prog 7 #[.agg #[.int .i64 r, .int .i64 c, .slice a l cap]] w (Says w (.tuple #[.pointer none, .int .i64 1])) := by
  obtain ⟨W0, hW⟩ : ∃ W0, w.alloc (.cells #[.int .i64 r, .int .i64 c, .slice a l cap] 24) = W0 := ⟨_, rfl⟩
  obtain ⟨b0, sz0⟩ := alo1 w (.cells #[.int .i64 r, .int .i64 c, .slice a l cap] 24)
  rw [hW] at b0 sz0
  have HC := hid (check_no (w := W0) (a := a) (cap := cap) h)
  have G0 := hid b0
  have EW := hid hW
  clear h b0 sz0 hW
  go_enter Try.func7, Try.ntmps7
  go_wp2_with fail
  rw [EW.out]
  refine HC.out.mono ?_
  rintro e w1 ⟨rfl, b1⟩
  have FIN : Hid (Says w (.tuple #[.pointer none, .int .i64 1]) (.returned (.tuple #[.pointer none, .int .i64 1])) w1) := ⟨rfl, below_step G0.out b1⟩
  clear HC b1 EW G0
  go_wp2
  go_ret2
  exact FIN.out
end Go.Proofs.Ytachdicdfhfoaaa
