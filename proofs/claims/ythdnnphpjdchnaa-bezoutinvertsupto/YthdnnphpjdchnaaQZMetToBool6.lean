/-
  QZMetToBool6: ZMet, Bool6, joined.
-/
import Derived.Test.YthdnnphpjdchnaaQZStoreToZFloor
import Derived.Test.YthdnnphpjdchnaaQZModToZDivs
import Derived.Deep.Cut
import Derived.Test.YthdnnphpjdchnaaQR5Div
import Derived.Test.YthdnnphpjdchnaaQLess6

/- ZMet -/
namespace Go.Proofs.Ythdnnphpjdchnaa
open Go.RowKit
set_option linter.unusedVariables false

def MetB (W wx : World) (s1 : Value) (z : Int) (k : Nat) : Prop :=
  ∃ bk n, ∃ x : List Int, ∃ a c, s1 = .pointer (some ⟨bk, 0, none⟩) ∧ Below W.heap.size W wx ∧ W.heap.size ≤ bk ∧ bk < wx.heap.size ∧ Duo wx bk (.bool n) (.slice a x.length c) ∧ Zm W.heap.size wx (.agg #[.bool n, .slice a x.length c]) z k
theorem duo_calls {w0 w' : World} (b : Below (w0.alloc zbox).heap.size (w0.alloc zbox) w') : Duo w' w0.heap.size (.bool false) (.slice none 0 0) := (Duo.new w0 _ _).below b (by simp)
theorem duo_calls_d {w0 w' : World} (b : Below (w0.alloc zbox).drew.heap.size (w0.alloc zbox).drew w') : Duo w' w0.heap.size (.bool false) (.slice none 0 0) := (Duo.new w0 _ _).drew.below b (by simp [World.drew])
theorem metb_set {W w2 : World} {bk B : Nat} {n : Bool} {t : List Int} {a : Option Addr} {c k : Nat} {z : Int} (D : Duo w2 bk (.bool false) (.slice none 0 0)) (M : Zm B w2 (.agg #[.bool n, .slice a t.length c]) z k) (HP : Below W.heap.size W w2) (h1 : W.heap.size ≤ bk) (h2 : W.heap.size ≤ B) :
    MetB W ((w2.setCell ⟨bk, 0, none⟩ (.bool n)).setCell ⟨bk, 1, none⟩ (.slice a t.length c)) (.pointer (some ⟨bk, 0, none⟩)) z k :=
  ⟨bk, n, t, a, c, rfl, bset (bset HP h1) h1, h1, (D.set _ _).blk, D.set _ _, (M.box D _ _).mono h2⟩
theorem metb_new {W w2 : World} {B : Nat} {n : Bool} {t : List Int} {a : Option Addr} {c k : Nat} {z : Int} (M : Zm B w2 (.agg #[.bool n, .slice a t.length c]) z k) (HP : Below W.heap.size W w2) (h2 : W.heap.size ≤ B) :
    MetB W (w2.alloc (duo (.bool n) (.slice a t.length c))) (.pointer (some ⟨w2.heap.size, 0, none⟩)) z k := by
  have k := (Below.refl w2.heap.size w2).alloc (Nat.le_refl _) (duo (.bool n) (.slice a t.length c))
  exact ⟨w2.heap.size, n, t, a, c, rfl, below_step HP k, HP.size, by simp, Duo.new w2 _ _, (M.now k).mono h2⟩
end Go.Proofs.Ythdnnphpjdchnaa

/- Bool6 -/
namespace Go.Proofs.Ythdnnphpjdchnaa
open Go.RowKit
set_option linter.unusedVariables false

set_option maxHeartbeats 6400000 in
set_option maxRecDepth 100000 in
theorem divides_zero {w : World} {vd va : Value} {D A : Int} {k : Nat} (hd0 : Zi w vd D k) (ha0 : Zi w va A k) (hk : k ≤ 1099511627776) (hd : D = 0) (hA : A = 0) :
    Calls Try.prog 16 #[vd, va] w fun e w' => e = .returned (.bool true) ∧ Below w.heap.size w w' := by
  have HD := hid hd
  have HA := hid hA
  clear hd hA
  rename Zi w vd D k => hd
  rename Zi w va A k => ha
  have HS : Hid (∀ w' v z, z = 0 → Zi w' v z k → Calls Try.prog 15 #[v] w' fun e w'' => e = .returned (.int .i64 0) ∧ Below w'.heap.size w' w'') := fun w' v z e h => by
    have q := rsign_z h hk
    rw [e, cmpI_self] at q
    exact q
  have q0 : ((0 : Int) == 0) = true := rfl
  have zd0 := hd
  obtain ⟨nd, xd, add, cd, rfl, -, -, -⟩ := hd
  have za0 := ha
  obtain ⟨na, xa, ada, ca, rfl, -, -, -⟩ := ha
  obtain ⟨W0, hW⟩ : ∃ W0, (w.alloc (duo (.bool nd) (.slice add xd.length cd))).alloc (duo (.bool na) (.slice ada xa.length ca)) = W0 := ⟨_, rfl⟩
  obtain ⟨b0, sz0⟩ := alloc2 w (duo (.bool nd) (.slice add xd.length cd)) (duo (.bool na) (.slice ada xa.length ca))
  rw [hW] at b0 sz0
  have Pd : Hid (Duo W0 (w.heap.size) (.bool nd) (.slice add xd.length cd)) := by unfold Hid; rw [← hW]; exact duo_late (duo_at (by simp)) _
  have Pa : Hid (Duo W0 (w.heap.size + 1) (.bool na) (.slice ada xa.length ca)) := by unfold Hid; rw [← hW]; exact duo_at (by simp)
  have Zd := hid (zd0.now b0)
  clear zd0
  have Za := hid (za0.now b0)
  clear za0
  have G := hid b0
  clear b0
  have EW := hid hW
  clear hW
  go_enter Try.func16, Try.ntmps16
  have cd0 := Pd.out.c0
  have cd1 := Pd.out.c1
  rw [← EW.out] at cd0 cd1
  go_wp2_with fail
  rw [EW.out]
  clear EW
  clear cd0 cd1
  refine (HS.out _ _ _ HD.out Zd.out).mono ?_
  rintro e w1 ⟨rfl, b⟩
  replace Zd := hid (Zd.out.now b)
  replace Za := hid (Za.out.now b)
  replace Pd := hid (Pd.out.step b)
  replace Pa := hid (Pa.out.step b)
  replace G := hid (below_step G.out b)
  have lz2 := (show Below _ _ _ from b).size
  clear b 
  have ca0 := Pa.out.c0
  have ca1 := Pa.out.c1
  go_wp2_with fail
  clear ca0 ca1
  refine (HS.out _ _ _ HA.out Za.out).mono ?_
  rintro e w3 ⟨rfl, b⟩
  replace Zd := hid (Zd.out.now b)
  replace Za := hid (Za.out.now b)
  replace Pd := hid (Pd.out.step b)
  replace Pa := hid (Pa.out.step b)
  replace G := hid (below_step G.out b)
  have lz4 := (show Below _ _ _ from b).size
  clear b 
  go_wp2
  go_ret
  exact ⟨rfl, G.out⟩

set_option maxHeartbeats 6400000 in
set_option maxRecDepth 100000 in
theorem divides_yes {w : World} {vd va : Value} {D A : Int} {k : Nat} (hd0 : Zi w vd D k) (ha0 : Zi w va A k) (hk : k ≤ 1099511627776) (hd : D ≠ 0) (hA : A.tmod D = 0) :
    Calls Try.prog 16 #[vd, va] w fun e w' => e = .returned (.bool true) ∧ Below w.heap.size w w' := by
  have HD := hid hd
  have HA := hid hA
  clear hd hA
  rename Zi w vd D k => hd
  rename Zi w va A k => ha
  have HS : Hid (∀ w' v, Zi w' v D k → _) := fun (w' : World) (v : Value) (h : Zi w' v D k) => rsign_z h hk
  have q0 : (cmpI D 0 == 0) = false := by rw [beq_eq_false_iff_ne]; exact fun e => HD.out (cmpI_zero e)
  generalize cmpI D 0 = C at *
  have q1 : (((0 : Int) == 0)) = true := rfl
  have zd0 := hd
  obtain ⟨nd, xd, add, cd, rfl, -, -, -⟩ := hd
  have za0 := ha
  obtain ⟨na, xa, ada, ca, rfl, -, -, -⟩ := ha
  obtain ⟨W0, hW⟩ : ∃ W0, (w.alloc (duo (.bool nd) (.slice add xd.length cd))).alloc (duo (.bool na) (.slice ada xa.length ca)) = W0 := ⟨_, rfl⟩
  obtain ⟨b0, sz0⟩ := alloc2 w (duo (.bool nd) (.slice add xd.length cd)) (duo (.bool na) (.slice ada xa.length ca))
  rw [hW] at b0 sz0
  have Pd : Hid (Duo W0 (w.heap.size) (.bool nd) (.slice add xd.length cd)) := by unfold Hid; rw [← hW]; exact duo_late (duo_at (by simp)) _
  have Pa : Hid (Duo W0 (w.heap.size + 1) (.bool na) (.slice ada xa.length ca)) := by unfold Hid; rw [← hW]; exact duo_at (by simp)
  have Zd := hid (zd0.now b0)
  clear zd0
  have Za := hid (za0.now b0)
  clear za0
  have G := hid b0
  clear b0
  have EW := hid hW
  clear hW
  go_enter Try.func16, Try.ntmps16
  have cd0 := Pd.out.c0
  have cd1 := Pd.out.c1
  rw [← EW.out] at cd0 cd1
  go_wp2_with fail
  rw [EW.out]
  clear EW
  clear cd0 cd1
  refine (HS.out _ _ Zd.out).mono ?_
  rintro e w1 ⟨rfl, b⟩
  replace Zd := hid (Zd.out.now b)
  replace Za := hid (Za.out.now b)
  replace Pd := hid (Pd.out.step b)
  replace Pa := hid (Pa.out.step b)
  replace G := hid (below_step G.out b)
  have lz2 := (show Below _ _ _ from b).size
  clear b 
  have ca0 := Pa.out.c0
  have ca1 := Pa.out.c1
  have cd0 := Pd.out.c0
  have cd1 := Pd.out.c1
  go_wp2_with fail
  clear ca0 ca1 cd0 cd1
  refine (rexact_yes Za.out Zd.out HD.out hk hk HA.out).mono ?_
  rintro e w3 ⟨r0, rfl, m0, b⟩
  obtain ⟨nq, xq, adq, qq, rfl, -, -, -, -, -⟩ := id m0
  replace Zd := hid (Zd.out.now b)
  replace Za := hid (Za.out.now b)
  replace Pd := hid (Pd.out.step b)
  replace Pa := hid (Pa.out.step b)
  replace G := hid (below_step G.out b)
  have lz4 := (show Below _ _ _ from b).size
  have Zq := hid m0
  clear b m0
  obtain ⟨V5, hW⟩ : ∃ V5, w3.alloc (duo (.bool nq) (.slice adq xq.length qq)) = V5 := ⟨_, rfl⟩
  obtain ⟨kW, sz5⟩ := alloc1 w3 (duo (.bool nq) (.slice adq xq.length qq))
  rw [hW] at kW sz5
  replace Zd := hid (Zd.out.now kW)
  replace Za := hid (Za.out.now kW)
  replace Zq := hid (Zq.out.now kW)
  replace Pd := hid (Pd.out.step kW)
  replace Pa := hid (Pa.out.step kW)
  replace G := hid (below_step G.out kW)
  have lz6 := (show Below _ _ _ from kW).size
  have Pq : Hid (Duo V5 (w3.heap.size) (.bool nq) (.slice adq xq.length qq)) := by unfold Hid; rw [← hW]; exact duo_at (by simp)
  clear kW
  have EW := hid hW
  clear hW
  go_wp2
  rw [EW.out]
  go_ret
  exact ⟨rfl, G.out⟩

set_option maxHeartbeats 6400000 in
set_option maxRecDepth 100000 in
theorem divides_no {w : World} {vd va : Value} {D A : Int} {k : Nat} (hd0 : Zi w vd D k) (ha0 : Zi w va A k) (hk : k ≤ 1099511627776) (hd : D ≠ 0) (hA : A.tmod D ≠ 0) :
    Calls Try.prog 16 #[vd, va] w fun e w' => e = .returned (.bool false) ∧ Below w.heap.size w w' := by
  have HD := hid hd
  have HA := hid hA
  clear hd hA
  rename Zi w vd D k => hd
  rename Zi w va A k => ha
  have HS : Hid (∀ w' v, Zi w' v D k → _) := fun (w' : World) (v : Value) (h : Zi w' v D k) => rsign_z h hk
  have q0 : (cmpI D 0 == 0) = false := by rw [beq_eq_false_iff_ne]; exact fun e => HD.out (cmpI_zero e)
  generalize cmpI D 0 = C at *
  have q1 : (((8 : Int) == 0)) = false := rfl
  have zd0 := hd
  obtain ⟨nd, xd, add, cd, rfl, -, -, -⟩ := hd
  have za0 := ha
  obtain ⟨na, xa, ada, ca, rfl, -, -, -⟩ := ha
  obtain ⟨W0, hW⟩ : ∃ W0, (w.alloc (duo (.bool nd) (.slice add xd.length cd))).alloc (duo (.bool na) (.slice ada xa.length ca)) = W0 := ⟨_, rfl⟩
  obtain ⟨b0, sz0⟩ := alloc2 w (duo (.bool nd) (.slice add xd.length cd)) (duo (.bool na) (.slice ada xa.length ca))
  rw [hW] at b0 sz0
  have Pd : Hid (Duo W0 (w.heap.size) (.bool nd) (.slice add xd.length cd)) := by unfold Hid; rw [← hW]; exact duo_late (duo_at (by simp)) _
  have Pa : Hid (Duo W0 (w.heap.size + 1) (.bool na) (.slice ada xa.length ca)) := by unfold Hid; rw [← hW]; exact duo_at (by simp)
  have Zd := hid (zd0.now b0)
  clear zd0
  have Za := hid (za0.now b0)
  clear za0
  have G := hid b0
  clear b0
  have EW := hid hW
  clear hW
  go_enter Try.func16, Try.ntmps16
  have cd0 := Pd.out.c0
  have cd1 := Pd.out.c1
  rw [← EW.out] at cd0 cd1
  go_wp2_with fail
  rw [EW.out]
  clear EW
  clear cd0 cd1
  refine (HS.out _ _ Zd.out).mono ?_
  rintro e w1 ⟨rfl, b⟩
  replace Zd := hid (Zd.out.now b)
  replace Za := hid (Za.out.now b)
  replace Pd := hid (Pd.out.step b)
  replace Pa := hid (Pa.out.step b)
  replace G := hid (below_step G.out b)
  have lz2 := (show Below _ _ _ from b).size
  clear b 
  have ca0 := Pa.out.c0
  have ca1 := Pa.out.c1
  have cd0 := Pd.out.c0
  have cd1 := Pd.out.c1
  go_wp2_with fail
  clear ca0 ca1 cd0 cd1
  refine (rexact_no Za.out Zd.out HD.out hk hk HA.out).mono ?_
  rintro e w3 ⟨r0, rfl, m0, b⟩
  obtain ⟨nq, xq, adq, qq, rfl, -, -, -, -, -⟩ := id m0
  replace Zd := hid (Zd.out.now b)
  replace Za := hid (Za.out.now b)
  replace Pd := hid (Pd.out.step b)
  replace Pa := hid (Pa.out.step b)
  replace G := hid (below_step G.out b)
  have lz4 := (show Below _ _ _ from b).size
  have Zq := hid m0
  clear b m0
  obtain ⟨V5, hW⟩ : ∃ V5, w3.alloc (duo (.bool nq) (.slice adq xq.length qq)) = V5 := ⟨_, rfl⟩
  obtain ⟨kW, sz5⟩ := alloc1 w3 (duo (.bool nq) (.slice adq xq.length qq))
  rw [hW] at kW sz5
  replace Zd := hid (Zd.out.now kW)
  replace Za := hid (Za.out.now kW)
  replace Zq := hid (Zq.out.now kW)
  replace Pd := hid (Pd.out.step kW)
  replace Pa := hid (Pa.out.step kW)
  replace G := hid (below_step G.out kW)
  have lz6 := (show Below _ _ _ from kW).size
  have Pq : Hid (Duo V5 (w3.heap.size) (.bool nq) (.slice adq xq.length qq)) := by unfold Hid; rw [← hW]; exact duo_at (by simp)
  clear kW
  have EW := hid hW
  clear hW
  go_wp2
  rw [EW.out]
  go_ret
  exact ⟨rfl, G.out⟩

theorem divides6 {w : World} {vd va : Value} {D A : Int} {k l : Nat} (hd : Zi w vd D k) (ha : Zi w va A l) (hk : k ≤ 1099511627776) (hl : l ≤ 1099511627776) (h : D ∣ A) : Calls Try.prog 16 #[vd, va] w fun e w' => e = .returned (.bool true) ∧ Below w.heap.size w w' := by
  by_cases e : D = 0
  · exact divides_zero (k := max k l) (hd.more (by omega)) (ha.more (by omega)) (by omega) e (by subst e; exact Int.zero_dvd.1 h)
  · exact divides_yes (k := max k l) (hd.more (by omega)) (ha.more (by omega)) (by omega) e (Int.tmod_eq_zero_of_dvd h)
set_option maxHeartbeats 6400000 in
set_option maxRecDepth 100000 in
theorem equal6 {w : World} {va vb : Value} {A B : Int} {k : Nat} (ha : Zi w va A k) (hb : Zi w vb B k) (hk : k ≤ 1099511627776) (h : A = B) :
    Calls Try.prog 20 #[va, vb] w fun e w' => e = .returned (.bool true) ∧ Below w.heap.size w w' := by
  have HS : Hid (∀ w' v u, Zi w' v A k → Zi w' u B k → Calls Try.prog 31 #[v, u] w' fun e w'' => e = .returned (.int .i64 0) ∧ Below w'.heap.size w' w'') := fun w' v u h1 h2 => by
    have q := rcmp_z h1 h2 hk hk
    rw [h, cmpI_self] at q
    exact q
  have q0 : ((0 : Int) == 0) = true := rfl
  clear h
  have za0 := ha
  obtain ⟨na, xa, ada, ca, rfl, -, -, -⟩ := ha
  have zb0 := hb
  obtain ⟨nb, xb, adb, cb, rfl, -, -, -⟩ := hb
  obtain ⟨W0, hW⟩ : ∃ W0, (w.alloc (duo (.bool na) (.slice ada xa.length ca))).alloc (duo (.bool nb) (.slice adb xb.length cb)) = W0 := ⟨_, rfl⟩
  obtain ⟨b0, sz0⟩ := alloc2 w (duo (.bool na) (.slice ada xa.length ca)) (duo (.bool nb) (.slice adb xb.length cb))
  rw [hW] at b0 sz0
  have Pa : Hid (Duo W0 (w.heap.size) (.bool na) (.slice ada xa.length ca)) := by unfold Hid; rw [← hW]; exact duo_late (duo_at (by simp)) _
  have Pb : Hid (Duo W0 (w.heap.size + 1) (.bool nb) (.slice adb xb.length cb)) := by unfold Hid; rw [← hW]; exact duo_at (by simp)
  have Za := hid (za0.now b0)
  clear za0
  have Zb := hid (zb0.now b0)
  clear zb0
  have G := hid b0
  clear b0
  have EW := hid hW
  clear hW
  go_enter Try.func20, Try.ntmps20
  have ca0 := Pa.out.c0
  have ca1 := Pa.out.c1
  have cb0 := Pb.out.c0
  have cb1 := Pb.out.c1
  rw [← EW.out] at ca0 ca1 cb0 cb1
  go_wp2_with fail
  rw [EW.out]
  clear EW
  clear ca0 ca1 cb0 cb1
  refine (HS.out _ _ _ Za.out Zb.out).mono ?_
  rintro e w1 ⟨rfl, b⟩
  replace Za := hid (Za.out.now b)
  replace Zb := hid (Zb.out.now b)
  replace Pa := hid (Pa.out.step b)
  replace Pb := hid (Pb.out.step b)
  replace G := hid (below_step G.out b)
  have lz2 := (show Below _ _ _ from b).size
  clear b 
  go_wp2
  go_ret
  exact ⟨rfl, G.out⟩

set_option maxHeartbeats 6400000 in
set_option maxRecDepth 100000 in
theorem within6 {w : World} {va vb : Value} {A B : Int} {k : Nat} (ha : Zi w va A k) (hb : Zi w vb B k) (hk : k ≤ 1099511627776) (h : 0 ≤ A ∧ A < (B.natAbs : Int)) :
    Calls Try.prog 23 #[va, vb] w fun e w' => e = .returned (.bool true) ∧ Below w.heap.size w w' := by
  have g1 : (0 : Int) ≤ cmpI A 0 := by unfold cmpI; (repeat' split) <;> omega
  have g2 : cmpI (A.natAbs : Int) (B.natAbs : Int) < 0 := by rw [cmpI_lt (by omega)]; omega
  have H1 : Hid (∀ w' v, Zi w' v A k → _) := fun (w' : World) (v : Value) (h : Zi w' v A k) => rsign_z h hk
  have H2 : Hid (∀ w' v u, Zi w' v A k → Zi w' u B k → _) := fun (w' : World) (v u : Value) (h : Zi w' v A k) (h' : Zi w' u B k) => rcmpAbs_z h h' hk hk
  generalize cmpI A 0 = C1 at *
  generalize cmpI (A.natAbs : Int) (B.natAbs : Int) = C2 at *
  clear h
  have za0 := ha
  obtain ⟨na, xa, ada, ca, rfl, -, -, -⟩ := ha
  have zb0 := hb
  obtain ⟨nb, xb, adb, cb, rfl, -, -, -⟩ := hb
  obtain ⟨W0, hW⟩ : ∃ W0, (w.alloc (duo (.bool na) (.slice ada xa.length ca))).alloc (duo (.bool nb) (.slice adb xb.length cb)) = W0 := ⟨_, rfl⟩
  obtain ⟨b0, sz0⟩ := alloc2 w (duo (.bool na) (.slice ada xa.length ca)) (duo (.bool nb) (.slice adb xb.length cb))
  rw [hW] at b0 sz0
  have Pa : Hid (Duo W0 (w.heap.size) (.bool na) (.slice ada xa.length ca)) := by unfold Hid; rw [← hW]; exact duo_late (duo_at (by simp)) _
  have Pb : Hid (Duo W0 (w.heap.size + 1) (.bool nb) (.slice adb xb.length cb)) := by unfold Hid; rw [← hW]; exact duo_at (by simp)
  have Za := hid (za0.now b0)
  clear za0
  have Zb := hid (zb0.now b0)
  clear zb0
  have G := hid b0
  clear b0
  have EW := hid hW
  clear hW
  go_enter Try.func23, Try.ntmps23
  have ca0 := Pa.out.c0
  have ca1 := Pa.out.c1
  rw [← EW.out] at ca0 ca1
  go_wp2_with fail
  rw [EW.out]
  clear EW
  clear ca0 ca1
  refine (H1.out _ _ Za.out).mono ?_
  rintro e w1 ⟨rfl, b⟩
  replace Za := hid (Za.out.now b)
  replace Zb := hid (Zb.out.now b)
  replace Pa := hid (Pa.out.step b)
  replace Pb := hid (Pb.out.step b)
  replace G := hid (below_step G.out b)
  have lz2 := (show Below _ _ _ from b).size
  clear b 
  have ca0 := Pa.out.c0
  have ca1 := Pa.out.c1
  have cb0 := Pb.out.c0
  have cb1 := Pb.out.c1
  go_wp2_with fail
  clear ca0 ca1 cb0 cb1
  refine (H2.out _ _ _ Za.out Zb.out).mono ?_
  rintro e w3 ⟨rfl, b⟩
  replace Za := hid (Za.out.now b)
  replace Zb := hid (Zb.out.now b)
  replace Pa := hid (Pa.out.step b)
  replace Pb := hid (Pb.out.step b)
  replace G := hid (below_step G.out b)
  have lz4 := (show Below _ _ _ from b).size
  clear b 
  go_wp2
  go_ret
  exact ⟨rfl, G.out⟩

end Go.Proofs.Ythdnnphpjdchnaa
