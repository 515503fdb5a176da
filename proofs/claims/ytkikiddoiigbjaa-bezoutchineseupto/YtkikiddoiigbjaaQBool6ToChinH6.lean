/-
  QBool6ToChinH6: Bool6, Law6, ChinH6, joined.
-/
import Derived.Test.YtkikiddoiigbjaaQR5Div
import Derived.Test.YtkikiddoiigbjaaQZMetToMWord
import Derived.Test.YtkikiddoiigbjaaQZStoreToZFloor
import Derived.Test.YtkikiddoiigbjaaQLess6
import Derived.Test.YtkikiddoiigbjaaQJoinToChinP6
import Derived.Test.YtkikiddoiigbjaaQGatE6ToR5Made

/- Bool6 -/
namespace Go.Proofs.Ytkikiddoiigbjaa
open Go.RowKit
set_option linter.unusedVariables false

set_option maxHeartbeats 6400000 in
set_option maxRecDepth 100000 in
theorem divides_zero {w : World} {vd va : Value} {D A : Int} {k : Nat} (hd0 : Zi w vd D k) (ha0 : Zi w va A k) (hk : k ≤ 1099511627776) (hd : D = 0) (hA : A = 0) :
    Calls Try.prog 11 #[vd, va] w fun e w' => e = .returned (.bool true) ∧ Below w.heap.size w w' := by
  have HD := hid hd
  have HA := hid hA
  clear hd hA
  rename Zi w vd D k => hd
  rename Zi w va A k => ha
  have HS : Hid (∀ w' v z, z = 0 → Zi w' v z k → Calls Try.prog 10 #[v] w' fun e w'' => e = .returned (.int .i64 0) ∧ Below w'.heap.size w' w'') := fun w' v z e h => by
    have q := rsign_z h hk
    rw [e, cmpI_self] at q
    exact q
  have q0 : ((0 : Int) == 0) = true := rfl
  have zd0 := hd
  obtain ⟨nd, xd, add, cd, rfl, -, -, -⟩ := hd
  have za0 := ha
  obtain ⟨na, xa, ada, ca, rfl, -, -, -⟩ := ha
  obtain ⟨W0, hW⟩ : ∃ W0, (w.alloc (duo (.bool nd) (.slice add xd.length cd))).alloc (duo (.bool na) (.slice ada xa.length ca)) = W0 := ⟨_, rfl⟩
  obtain ⟨b0, sz0⟩ := alloc2 w (duo (.bool nd) (.slice add xd.length cd)) (duo (.bool na) (.slice ada xa.length ca))
  rw [hW] at b0 sz0
  have Pd : Hid (Duo W0 (w.heap.size) (.bool nd) (.slice add xd.length cd)) := by unfold Hid; rw [← hW]; exact duo_late (duo_at (by simp)) _
  have Pa : Hid (Duo W0 (w.heap.size + 1) (.bool na) (.slice ada xa.length ca)) := by unfold Hid; rw [← hW]; exact duo_at (by simp)
  have Zd := hid (zd0.now b0)
  clear zd0
  have Za := hid (za0.now b0)
  clear za0
  have G := hid b0
  clear b0
  have EW := hid hW
  clear hW
  go_enter Try.func11, Try.ntmps11
  have cd0 := Pd.out.c0
  have cd1 := Pd.out.c1
  rw [← EW.out] at cd0 cd1
  go_wp2_with fail
  rw [EW.out]
  clear EW
  clear cd0 cd1
  refine (HS.out _ _ _ HD.out Zd.out).mono ?_
  rintro e w1 ⟨rfl, b⟩
  replace Zd := hid (Zd.out.now b)
  replace Za := hid (Za.out.now b)
  replace Pd := hid (Pd.out.step b)
  replace Pa := hid (Pa.out.step b)
  replace G := hid (below_step G.out b)
  have lz2 := (show Below _ _ _ from b).size
  clear b 
  have ca0 := Pa.out.c0
  have ca1 := Pa.out.c1
  go_wp2_with fail
  clear ca0 ca1
  refine (HS.out _ _ _ HA.out Za.out).mono ?_
  rintro e w3 ⟨rfl, b⟩
  replace Zd := hid (Zd.out.now b)
  replace Za := hid (Za.out.now b)
  replace Pd := hid (Pd.out.step b)
  replace Pa := hid (Pa.out.step b)
  replace G := hid (below_step G.out b)
  have lz4 := (show Below _ _ _ from b).size
  clear b 
  go_wp2
  go_ret
  exact ⟨rfl, G.out⟩

set_option maxHeartbeats 6400000 in
set_option maxRecDepth 100000 in
theorem divides_yes {w : World} {vd va : Value} {D A : Int} {k : Nat} (hd0 : Zi w vd D k) (ha0 : Zi w va A k) (hk : k ≤ 1099511627776) (hd : D ≠ 0) (hA : A.tmod D = 0) :
    Calls Try.prog 11 #[vd, va] w fun e w' => e = .returned (.bool true) ∧ Below w.heap.size w w' := by
  have HD := hid hd
  have HA := hid hA
  clear hd hA
  rename Zi w vd D k => hd
  rename Zi w va A k => ha
  have HS : Hid (∀ w' v, Zi w' v D k → _) := fun (w' : World) (v : Value) (h : Zi w' v D k) => rsign_z h hk
  have q0 : (cmpI D 0 == 0) = false := by rw [beq_eq_false_iff_ne]; exact fun e => HD.out (cmpI_zero e)
  generalize cmpI D 0 = C at *
  have q1 : (((0 : Int) == 0)) = true := rfl
  have zd0 := hd
  obtain ⟨nd, xd, add, cd, rfl, -, -, -⟩ := hd
  have za0 := ha
  obtain ⟨na, xa, ada, ca, rfl, -, -, -⟩ := ha
  obtain ⟨W0, hW⟩ : ∃ W0, (w.alloc (duo (.bool nd) (.slice add xd.length cd))).alloc (duo (.bool na) (.slice ada xa.length ca)) = W0 := ⟨_, rfl⟩
  obtain ⟨b0, sz0⟩ := alloc2 w (duo (.bool nd) (.slice add xd.length cd)) (duo (.bool na) (.slice ada xa.length ca))
  rw [hW] at b0 sz0
  have Pd : Hid (Duo W0 (w.heap.size) (.bool nd) (.slice add xd.length cd)) := by unfold Hid; rw [← hW]; exact duo_late (duo_at (by simp)) _
  have Pa : Hid (Duo W0 (w.heap.size + 1) (.bool na) (.slice ada xa.length ca)) := by unfold Hid; rw [← hW]; exact duo_at (by simp)
  have Zd := hid (zd0.now b0)
  clear zd0
  have Za := hid (za0.now b0)
  clear za0
  have G := hid b0
  clear b0
  have EW := hid hW
  clear hW
  go_enter Try.func11, Try.ntmps11
  have cd0 := Pd.out.c0
  have cd1 := Pd.out.c1
  rw [← EW.out] at cd0 cd1
  go_wp2_with fail
  rw [EW.out]
  clear EW
  clear cd0 cd1
  refine (HS.out _ _ Zd.out).mono ?_
  rintro e w1 ⟨rfl, b⟩
  replace Zd := hid (Zd.out.now b)
  replace Za := hid (Za.out.now b)
  replace Pd := hid (Pd.out.step b)
  replace Pa := hid (Pa.out.step b)
  replace G := hid (below_step G.out b)
  have lz2 := (show Below _ _ _ from b).size
  clear b 
  have ca0 := Pa.out.c0
  have ca1 := Pa.out.c1
  have cd0 := Pd.out.c0
  have cd1 := Pd.out.c1
  go_wp2_with fail
  clear ca0 ca1 cd0 cd1
  refine (rexact_yes Za.out Zd.out HD.out hk hk HA.out).mono ?_
  rintro e w3 ⟨r0, rfl, m0, b⟩
  obtain ⟨nq, xq, adq, qq, rfl, -, -, -, -, -⟩ := id m0
  replace Zd := hid (Zd.out.now b)
  replace Za := hid (Za.out.now b)
  replace Pd := hid (Pd.out.step b)
  replace Pa := hid (Pa.out.step b)
  replace G := hid (below_step G.out b)
  have lz4 := (show Below _ _ _ from b).size
  have Zq := hid m0
  clear b m0
  obtain ⟨V5, hW⟩ : ∃ V5, w3.alloc (duo (.bool nq) (.slice adq xq.length qq)) = V5 := ⟨_, rfl⟩
  obtain ⟨kW, sz5⟩ := alloc1 w3 (duo (.bool nq) (.slice adq xq.length qq))
  rw [hW] at kW sz5
  replace Zd := hid (Zd.out.now kW)
  replace Za := hid (Za.out.now kW)
  replace Zq := hid (Zq.out.now kW)
  replace Pd := hid (Pd.out.step kW)
  replace Pa := hid (Pa.out.step kW)
  replace G := hid (below_step G.out kW)
  have lz6 := (show Below _ _ _ from kW).size
  have Pq : Hid (Duo V5 (w3.heap.size) (.bool nq) (.slice adq xq.length qq)) := by unfold Hid; rw [← hW]; exact duo_at (by simp)
  clear kW
  have EW := hid hW
  clear hW
  go_wp2
  rw [EW.out]
  go_ret
  exact ⟨rfl, G.out⟩

set_option maxHeartbeats 6400000 in
set_option maxRecDepth 100000 in
theorem divides_no {w : World} {vd va : Value} {D A : Int} {k : Nat} (hd0 : Zi w vd D k) (ha0 : Zi w va A k) (hk : k ≤ 1099511627776) (hd : D ≠ 0) (hA : A.tmod D ≠ 0) :
    Calls Try.prog 11 #[vd, va] w fun e w' => e = .returned (.bool false) ∧ Below w.heap.size w w' := by
  have HD := hid hd
  have HA := hid hA
  clear hd hA
  rename Zi w vd D k => hd
  rename Zi w va A k => ha
  have HS : Hid (∀ w' v, Zi w' v D k → _) := fun (w' : World) (v : Value) (h : Zi w' v D k) => rsign_z h hk
  have q0 : (cmpI D 0 == 0) = false := by rw [beq_eq_false_iff_ne]; exact fun e => HD.out (cmpI_zero e)
  generalize cmpI D 0 = C at *
  have q1 : (((8 : Int) == 0)) = false := rfl
  have zd0 := hd
  obtain ⟨nd, xd, add, cd, rfl, -, -, -⟩ := hd
  have za0 := ha
  obtain ⟨na, xa, ada, ca, rfl, -, -, -⟩ := ha
  obtain ⟨W0, hW⟩ : ∃ W0, (w.alloc (duo (.bool nd) (.slice add xd.length cd))).alloc (duo (.bool na) (.slice ada xa.length ca)) = W0 := ⟨_, rfl⟩
  obtain ⟨b0, sz0⟩ := alloc2 w (duo (.bool nd) (.slice add xd.length cd)) (duo (.bool na) (.slice ada xa.length ca))
  rw [hW] at b0 sz0
  have Pd : Hid (Duo W0 (w.heap.size) (.bool nd) (.slice add xd.length cd)) := by unfold Hid; rw [← hW]; exact duo_late (duo_at (by simp)) _
  have Pa : Hid (Duo W0 (w.heap.size + 1) (.bool na) (.slice ada xa.length ca)) := by unfold Hid; rw [← hW]; exact duo_at (by simp)
  have Zd := hid (zd0.now b0)
  clear zd0
  have Za := hid (za0.now b0)
  clear za0
  have G := hid b0
  clear b0
  have EW := hid hW
  clear hW
  go_enter Try.func11, Try.ntmps11
  have cd0 := Pd.out.c0
  have cd1 := Pd.out.c1
  rw [← EW.out] at cd0 cd1
  go_wp2_with fail
  rw [EW.out]
  clear EW
  clear cd0 cd1
  refine (HS.out _ _ Zd.out).mono ?_
  rintro e w1 ⟨rfl, b⟩
  replace Zd := hid (Zd.out.now b)
  replace Za := hid (Za.out.now b)
  replace Pd := hid (Pd.out.step b)
  replace Pa := hid (Pa.out.step b)
  replace G := hid (below_step G.out b)
  have lz2 := (show Below _ _ _ from b).size
  clear b 
  have ca0 := Pa.out.c0
  have ca1 := Pa.out.c1
  have cd0 := Pd.out.c0
  have cd1 := Pd.out.c1
  go_wp2_with fail
  clear ca0 ca1 cd0 cd1
  refine (rexact_no Za.out Zd.out HD.out hk hk HA.out).mono ?_
  rintro e w3 ⟨r0, rfl, m0, b⟩
  obtain ⟨nq, xq, adq, qq, rfl, -, -, -, -, -⟩ := id m0
  replace Zd := hid (Zd.out.now b)
  replace Za := hid (Za.out.now b)
  replace Pd := hid (Pd.out.step b)
  replace Pa := hid (Pa.out.step b)
  replace G := hid (below_step G.out b)
  have lz4 := (show Below _ _ _ from b).size
  have Zq := hid m0
  clear b m0
  obtain ⟨V5, hW⟩ : ∃ V5, w3.alloc (duo (.bool nq) (.slice adq xq.length qq)) = V5 := ⟨_, rfl⟩
  obtain ⟨kW, sz5⟩ := alloc1 w3 (duo (.bool nq) (.slice adq xq.length qq))
  rw [hW] at kW sz5
  replace Zd := hid (Zd.out.now kW)
  replace Za := hid (Za.out.now kW)
  replace Zq := hid (Zq.out.now kW)
  replace Pd := hid (Pd.out.step kW)
  replace Pa := hid (Pa.out.step kW)
  replace G := hid (below_step G.out kW)
  have lz6 := (show Below _ _ _ from kW).size
  have Pq : Hid (Duo V5 (w3.heap.size) (.bool nq) (.slice adq xq.length qq)) := by unfold Hid; rw [← hW]; exact duo_at (by simp)
  clear kW
  have EW := hid hW
  clear hW
  go_wp2
  rw [EW.out]
  go_ret
  exact ⟨rfl, G.out⟩

theorem divides6 {w : World} {vd va : Value} {D A : Int} {k l : Nat} (hd : Zi w vd D k) (ha : Zi w va A l) (hk : k ≤ 1099511627776) (hl : l ≤ 1099511627776) (h : D ∣ A) : Calls Try.prog 11 #[vd, va] w fun e w' => e = .returned (.bool true) ∧ Below w.heap.size w w' := by
  by_cases e : D = 0
  · exact divides_zero (k := max k l) (hd.more (by omega)) (ha.more (by omega)) (by omega) e (by subst e; exact Int.zero_dvd.1 h)
  · exact divides_yes (k := max k l) (hd.more (by omega)) (ha.more (by omega)) (by omega) e (Int.tmod_eq_zero_of_dvd h)
set_option maxHeartbeats 6400000 in
set_option maxRecDepth 100000 in
theorem equal6 {w : World} {va vb : Value} {A B : Int} {k : Nat} (ha : Zi w va A k) (hb : Zi w vb B k) (hk : k ≤ 1099511627776) (h : A = B) :
    Calls Try.prog 13 #[va, vb] w fun e w' => e = .returned (.bool true) ∧ Below w.heap.size w w' := by
  have HS : Hid (∀ w' v u, Zi w' v A k → Zi w' u B k → Calls Try.prog 28 #[v, u] w' fun e w'' => e = .returned (.int .i64 0) ∧ Below w'.heap.size w' w'') := fun w' v u h1 h2 => by
    have q := rcmp_z h1 h2 hk hk
    rw [h, cmpI_self] at q
    exact q
  have q0 : ((0 : Int) == 0) = true := rfl
  clear h
  have za0 := ha
  obtain ⟨na, xa, ada, ca, rfl, -, -, -⟩ := ha
  have zb0 := hb
  obtain ⟨nb, xb, adb, cb, rfl, -, -, -⟩ := hb
  obtain ⟨W0, hW⟩ : ∃ W0, (w.alloc (duo (.bool na) (.slice ada xa.length ca))).alloc (duo (.bool nb) (.slice adb xb.length cb)) = W0 := ⟨_, rfl⟩
  obtain ⟨b0, sz0⟩ := alloc2 w (duo (.bool na) (.slice ada xa.length ca)) (duo (.bool nb) (.slice adb xb.length cb))
  rw [hW] at b0 sz0
  have Pa : Hid (Duo W0 (w.heap.size) (.bool na) (.slice ada xa.length ca)) := by unfold Hid; rw [← hW]; exact duo_late (duo_at (by simp)) _
  have Pb : Hid (Duo W0 (w.heap.size + 1) (.bool nb) (.slice adb xb.length cb)) := by unfold Hid; rw [← hW]; exact duo_at (by simp)
  have Za := hid (za0.now b0)
  clear za0
  have Zb := hid (zb0.now b0)
  clear zb0
  have G := hid b0
  clear b0
  have EW := hid hW
  clear hW
  go_enter Try.func13, Try.ntmps13
  have ca0 := Pa.out.c0
  have ca1 := Pa.out.c1
  have cb0 := Pb.out.c0
  have cb1 := Pb.out.c1
  rw [← EW.out] at ca0 ca1 cb0 cb1
  go_wp2_with fail
  rw [EW.out]
  clear EW
  clear ca0 ca1 cb0 cb1
  refine (HS.out _ _ _ Za.out Zb.out).mono ?_
  rintro e w1 ⟨rfl, b⟩
  replace Za := hid (Za.out.now b)
  replace Zb := hid (Zb.out.now b)
  replace Pa := hid (Pa.out.step b)
  replace Pb := hid (Pb.out.step b)
  replace G := hid (below_step G.out b)
  have lz2 := (show Below _ _ _ from b).size
  clear b 
  go_wp2
  go_ret
  exact ⟨rfl, G.out⟩

set_option maxHeartbeats 6400000 in
set_option maxRecDepth 100000 in
theorem within6 {w : World} {va vb : Value} {A B : Int} {k : Nat} (ha : Zi w va A k) (hb : Zi w vb B k) (hk : k ≤ 1099511627776) (h : 0 ≤ A ∧ A < (B.natAbs : Int)) :
    Calls Try.prog 18 #[va, vb] w fun e w' => e = .returned (.bool true) ∧ Below w.heap.size w w' := by
  have g1 : (0 : Int) ≤ cmpI A 0 := by unfold cmpI; (repeat' split) <;> omega
  have g2 : cmpI (A.natAbs : Int) (B.natAbs : Int) < 0 := by rw [cmpI_lt (by omega)]; omega
  have H1 : Hid (∀ w' v, Zi w' v A k → _) := fun (w' : World) (v : Value) (h : Zi w' v A k) => rsign_z h hk
  have H2 : Hid (∀ w' v u, Zi w' v A k → Zi w' u B k → _) := fun (w' : World) (v u : Value) (h : Zi w' v A k) (h' : Zi w' u B k) => rcmpAbs_z h h' hk hk
  generalize cmpI A 0 = C1 at *
  generalize cmpI (A.natAbs : Int) (B.natAbs : Int) = C2 at *
  clear h
  have za0 := ha
  obtain ⟨na, xa, ada, ca, rfl, -, -, -⟩ := ha
  have zb0 := hb
  obtain ⟨nb, xb, adb, cb, rfl, -, -, -⟩ := hb
  obtain ⟨W0, hW⟩ : ∃ W0, (w.alloc (duo (.bool na) (.slice ada xa.length ca))).alloc (duo (.bool nb) (.slice adb xb.length cb)) = W0 := ⟨_, rfl⟩
  obtain ⟨b0, sz0⟩ := alloc2 w (duo (.bool na) (.slice ada xa.length ca)) (duo (.bool nb) (.slice adb xb.length cb))
  rw [hW] at b0 sz0
  have Pa : Hid (Duo W0 (w.heap.size) (.bool na) (.slice ada xa.length ca)) := by unfold Hid; rw [← hW]; exact duo_late (duo_at (by simp)) _
  have Pb : Hid (Duo W0 (w.heap.size + 1) (.bool nb) (.slice adb xb.length cb)) := by unfold Hid; rw [← hW]; exact duo_at (by simp)
  have Za := hid (za0.now b0)
  clear za0
  have Zb := hid (zb0.now b0)
  clear zb0
  have G := hid b0
  clear b0
  have EW := hid hW
  clear hW
  go_enter Try.func18, Try.ntmps18
  have ca0 := Pa.out.c0
  have ca1 := Pa.out.c1
  rw [← EW.out] at ca0 ca1
  go_wp2_with fail
  rw [EW.out]
  clear EW
  clear ca0 ca1
  refine (H1.out _ _ Za.out).mono ?_
  rintro e w1 ⟨rfl, b⟩
  replace Za := hid (Za.out.now b)
  replace Zb := hid (Zb.out.now b)
  replace Pa := hid (Pa.out.step b)
  replace Pb := hid (Pb.out.step b)
  replace G := hid (below_step G.out b)
  have lz2 := (show Below _ _ _ from b).size
  clear b 
  have ca0 := Pa.out.c0
  have ca1 := Pa.out.c1
  have cb0 := Pb.out.c0
  have cb1 := Pb.out.c1
  go_wp2_with fail
  clear ca0 ca1 cb0 cb1
  refine (H2.out _ _ _ Za.out Zb.out).mono ?_
  rintro e w3 ⟨rfl, b⟩
  replace Za := hid (Za.out.now b)
  replace Zb := hid (Zb.out.now b)
  replace Pa := hid (Pa.out.step b)
  replace Pb := hid (Pb.out.step b)
  replace G := hid (below_step G.out b)
  have lz4 := (show Below _ _ _ from b).size
  clear b 
  go_wp2
  go_ret
  exact ⟨rfl, G.out⟩

end Go.Proofs.Ytkikiddoiigbjaa

/- Law6 -/
namespace Go.Proofs.Ytkikiddoiigbjaa
open Go.RowKit
set_option linter.unusedVariables false

theorem least_top {xs : List Int} (h : Canon xs) (hx : xs ≠ []) : xs[xs.length - 1]'(by have := List.length_pos_iff.2 hx; omega) ≠ 0 := by
  have hp := List.length_pos_iff.2 hx
  have h1 := canon_drop (xs.length - 1) h
  rw [List.drop_eq_getElem_cons (by omega), show xs.length - 1 + 1 = xs.length by omega, List.drop_length] at h1
  intro e
  rw [e] at h1
  simpa [wid] using h1.2
theorem lit_zc {n : Bool} {x : Int} (w : World) (hx : 0 < x) (hx' : x ≤ 18446744073709551615) : Zc (w.alloc (.cells #[.int .u64 x] 37)) (.agg #[.bool n, .slice (some ⟨w.heap.size, 0, none⟩) 1 1]) (iv n [x]) 1 :=
  ⟨n, [x], _, _, rfl, word_one w x ⟨by omega, hx'⟩, ⟨(word_one w x ⟨by omega, hx'⟩).1, by simp [wid]; omega⟩, fun e => by simp at e, rfl, by simp⟩
set_option maxHeartbeats 6400000 in
set_option maxRecDepth 100000 in
theorem alike6_yes {w : World} {v u : Value} {z y : Int} {k l : Nat} (h : Zc w v z k) (h' : Zc w u y l) (hzy : z = y) :
    Calls Try.prog 9 #[v, u] w fun e w' => e = .returned (.bool true) ∧ Below w.heap.size w w' := by
  subst hzy
  obtain ⟨n, xs, a, c, rfl, s0, q0, e0, z0, k0⟩ := h
  obtain ⟨m, ys, b, d, rfl, s1, q1, e1, z1, k1⟩ := h'
  obtain ⟨rfl, rfl⟩ := iv_one (z0.trans z1.symm) q0 q1 e0 e1
  obtain ⟨W0, hW0⟩ : ∃ W0, (w.alloc (duo (.bool n) (.slice a xs.length c))).alloc (duo (.bool n) (.slice b xs.length d)) = W0 := ⟨_, rfl⟩
  obtain ⟨b0, sz0⟩ := alloc2 w (duo (.bool n) (.slice a xs.length c)) (duo (.bool n) (.slice b xs.length d))
  rw [hW0] at b0 sz0
  have p0 : Hid (Duo W0 w.heap.size (.bool n) (.slice a xs.length c)) := by unfold Hid; rw [← hW0]; exact duo_late (duo_at rfl) _
  have p1 : Hid (Duo W0 (w.heap.size + 1) (.bool n) (.slice b xs.length d)) := by unfold Hid; rw [← hW0]; exact duo_at (by simp)
  have HC := hid (same_yes (s0.now b0) (s1.now b0) rfl)
  have B0 := hid b0
  have EW := hid hW0
  have hq : (n == n) = true := by simp
  clear s0 s1 z0 z1 b0 q0 q1 e0 e1 hW0
  go_enter Try.func9, Try.ntmps9
  go_wp2_with fail
  rw [EW.out]
  refine HC.out.mono ?_
  rintro e w1 ⟨rfl, b1⟩
  have B1 := hid (below_step B0.out b1)
  have i0 := (p0.out.step b1).c0
  have i1 := (p1.out.step b1).c0
  clear b1 HC
  go_wp2
  go_ret
  exact ⟨rfl, B1.out⟩
/-- A call that answers an integer in whatever form. -/
def GivesI (w : World) (z : Int) (k : Nat) (e : Ending) (w' : World) : Prop := ∃ r, e = .returned r ∧ Zi w' r z k ∧ Below w.heap.size w w'
def GivesC (w : World) (z : Int) (k : Nat) (e : Ending) (w' : World) : Prop := ∃ r, e = .returned r ∧ Zc w' r z k ∧ Below w.heap.size w w'
set_option maxHeartbeats 6400000 in
set_option maxRecDepth 100000 in
theorem of6 {n : Int} (h0 : 0 ≤ n) (h1 : n ≤ 18446744073709551615) (w : World) :
    Calls Try.prog 15 #[.int .u64 n] w fun e w' => ∃ r, e = .returned r ∧ Zi w' r n 1 ∧ (0 < n → Zc w' r n 1) ∧ Below w.heap.size w w' := by
  obtain ⟨WX, hWX⟩ : ∃ WX, (w.alloc (duo (.bool false) (.slice (some ⟨w.heap.size + 1, 0, none⟩) 1 1))).alloc (.cells #[.int .u64 n] 37) = WX := ⟨_, rfl⟩
  obtain ⟨b0, sz0⟩ := alloc2 w (duo (.bool false) (.slice (some ⟨w.heap.size + 1, 0, none⟩) 1 1)) (.cells #[.int .u64 n] 37)
  rw [hWX] at b0 sz0
  have dX : Duo WX w.heap.size (.bool false) (.slice (some ⟨w.heap.size + 1, 0, none⟩) 1 1) := by rw [← hWX]; exact duo_late (duo_at rfl) _
  have sX : Sl WX.heap.size WX (.slice (some ⟨w.heap.size + 1, 0, none⟩) 1 1) [n] := by
    have := word_one (w.alloc (duo (.bool false) (.slice (some ⟨w.heap.size + 1, 0, none⟩) 1 1))) n ⟨h0, h1⟩
    rw [hWX] at this
    simpa using this
  have eV : iv false [n] = n := by simp [iv, val]
  have FIN : Hid (Zi WX (.agg #[.bool false, .slice (some ⟨w.heap.size + 1, 0, none⟩) 1 1]) n 1 ∧ (0 < n → Zc WX (.agg #[.bool false, .slice (some ⟨w.heap.size + 1, 0, none⟩) 1 1]) n 1)) :=
    ⟨⟨false, [n], _, _, rfl, sX, eV, by simp⟩, fun hn => ⟨false, [n], _, _, rfl, sX, ⟨sX.1, by simp [wid]; omega⟩, fun e => by simp at e, eV, by simp⟩⟩
  have EW := hid hWX
  have DX := hid dX
  have BX := hid b0
  clear sX dX eV b0 hWX
  go_enter Try.func15, Try.ntmps15
  go_wp2
  rw [EW.out]
  exact bodyPost_ret (zback Try.results15 DX.out _ (by rfl)) rfl ⟨_, rfl, FIN.out.1, FIN.out.2, BX.out⟩

set_option maxHeartbeats 6400000 in
set_option maxRecDepth 100000 in
theorem least6 {w : World} {v : Value} {z : Int} {k : Nat} (h : Zc w v z k) :
    Calls Try.prog 8 #[v] w fun e w' => e = .returned (.bool true) ∧ Below w.heap.size w w' := by
  obtain ⟨n, xs, a, c, rfl, s0, q0, e0, z0, k0⟩ := h
  have b0 := (alloc1 w (duo (.bool n) (.slice a xs.length c))).1
  have B0 := hid b0
  by_cases hx : xs = []
  · have hn := e0 hx
    subst hn hx
    clear s0 q0 e0 z0 k0 b0
    go_enter Try.func8, Try.ntmps8
    go_wp2
    go_ret
    exact ⟨rfl, B0.out⟩
  · have hp : 0 < xs.length := List.length_pos_iff.2 hx
    have s1 := s0.now b0
    have hw := least_top q0 hx
    obtain ⟨_, a', c', e1, _, _, e | ⟨g, off, e2, _, hc⟩⟩ := s1
    · exact absurd e hx
    · have h1 := hc (xs.length - 1) (by omega)
      simp only [Value.slice.injEq] at e1
      obtain ⟨rfl, -, rfl⟩ := e1
      subst e2
      obtain ⟨x, hxx⟩ : ∃ x, xs[xs.length - 1] = x := ⟨_, rfl⟩
      rw [hxx] at h1 hw
      have hne : (x != 0) = true := by simp [hw]
      obtain ⟨m, hm⟩ : ∃ m, xs.length = m + 1 := ⟨xs.length - 1, by omega⟩
      have hz : (((m + 1 : Nat) : Int) == 0) = false := by rw [beq_eq_false_iff_ne]; omega
      have hz' : (0 : Int) < ((m + 1 : Nat) : Int) := by omega
      have hs : ((m + 1 : Nat) : Int) - 1 = (m : Int) := by omega
      have hlt : m < m + 1 := by omega
      rw [hm] at h1 k0 ⊢
      rw [show m + 1 - 1 = m by omega] at h1
      rw [hm] at B0
      clear s0 q0 e0 z0 b0 hx hp hc hxx hw k0
      go_enter Try.func8, Try.ntmps8
      go_wp2
      go_ret
      exact ⟨rfl, B0.out⟩

end Go.Proofs.Ytkikiddoiigbjaa

/- ChinH6 -/
namespace Go.Proofs.Ytkikiddoiigbjaa
open Go.RowKit
set_option linter.unusedVariables false

theorem Zl.more9 {w : World} {v : Value} {zs : List Int} {k l : Nat} (h : Zl w v zs k) (hl : k ≤ l) : Zl w v zs l := by
  obtain ⟨a, c, h1, h2, h3, h4⟩ := h
  refine ⟨a, c, h1, h2, h3, ?_⟩
  rcases h4 with h4 | ⟨b, off, h5, h6, h7⟩
  · exact .inl h4
  · refine .inr ⟨b, off, h5, h6, fun j hj => ?_⟩
    obtain ⟨x, y, q1, q2, q3⟩ := h7 j hj
    exact ⟨x, y, q1, q2, q3.more hl⟩
theorem eor {W w w' : World} {v : Value} {z : Int} {k : Nat} (h : Zi W v z k ∨ Zm 0 w v z k) (b : Below w.heap.size w w') : Zi W v z k ∨ Zm 0 w' v z k := h.imp id (fun q => q.now b)
theorem GatE.boxn {W : World} {B k b : Nat} {w : World} {v x y : Value} {zs : List Int} (h : GatE W B w v zs k) (d : Duo w b x y) (hb : v.ownBlock ≠ some b) (u u' : Value) : GatE W B ((w.setCell ⟨b, 0, none⟩ u).setCell ⟨b, 1, none⟩ u') v zs k := by
  have d' : Cel w b 25 [x, y] := d
  refine h.off ((Ty.set d').trans (Ty.set (d'.set _ _))) (fun g hg => ?_)
  have hne : b ≠ g := fun e => hb (by rw [e]; exact hg)
  exact (Below.heap_setCell _ _ u' g (fun q => hne (by simpa using q.symm))).trans (Below.heap_setCell w _ u g (fun q => hne (by simpa using q.symm)))
set_option maxHeartbeats 6400000 in
set_option maxRecDepth 100000 in
theorem of6m {n : Int} (h0 : 0 < n) (h1 : n ≤ 18446744073709551615) (w : World) : Calls Try.prog 15 #[.int .u64 n] w (GivesZ w n 1) := by
  obtain ⟨WX, hWX⟩ : ∃ WX, (w.alloc (duo (.bool false) (.slice (some ⟨w.heap.size + 1, 0, none⟩) 1 1))).alloc (.cells #[.int .u64 n] 37) = WX := ⟨_, rfl⟩
  obtain ⟨b0, sz0⟩ := alloc2 w (duo (.bool false) (.slice (some ⟨w.heap.size + 1, 0, none⟩) 1 1)) (.cells #[.int .u64 n] 37)
  rw [hWX] at b0 sz0
  have dX : Duo WX w.heap.size (.bool false) (.slice (some ⟨w.heap.size + 1, 0, none⟩) 1 1) := by rw [← hWX]; exact duo_late (duo_at rfl) _
  have rX : Row WX (w.heap.size + 1) [.int .u64 n] := by
    have := heap_alloc_new (w.alloc (duo (.bool false) (.slice (some ⟨w.heap.size + 1, 0, none⟩) 1 1))) (.cells #[.int .u64 n] 37)
    rw [hWX] at this
    simpa [Row] using this
  have wX : WF [n] := by
    have := word_one w n ⟨Int.le_of_lt h0, h1⟩
    exact this.1
  have eV : iv false [n] = n := by simp [iv, val]
  have FIN : Hid (Zm w.heap.size WX (.agg #[.bool false, .slice (some ⟨w.heap.size + 1, 0, none⟩) 1 1]) n 1) :=
    ⟨false, [n], _, _, rfl, ⟨wX, .inr ⟨w.heap.size + 1, [], 1, by omega, by simp, by simp, .inl rfl, rfl, by simpa [ws] using rX⟩⟩, ⟨wX, by simp [wid]; omega⟩, fun e => by simp at e, eV, by simp⟩
  have EW := hid hWX
  have DX := hid dX
  have BX := hid b0
  clear rX wX dX eV b0 hWX
  go_enter Try.func15, Try.ntmps15
  go_wp2
  rw [EW.out]
  exact bodyPost_ret (zback Try.results15 DX.out _ (by rfl)) rfl ⟨_, rfl, FIN.out, BX.out⟩
end Go.Proofs.Ytkikiddoiigbjaa
