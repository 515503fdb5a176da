/-
  Law8: alike, like, is, lowest, names of the statements.
-/
import Derived.Test.YtaoammmnpfbdfaaQOf8
import Derived.Test.YtaoammmnpfbdfaaQTail
namespace Go.Proofs.Ytaoammmnpfbdfaa
open Go.RowKit
set_option linter.unusedVariables false

theorem lit_zc8 {n : Bool} {x : Int} (w : World) (hx : 0 < x) (hx' : x ≤ 18446744073709551615) : Zc (w.alloc (.cells #[.int .u64 x] 52)) (.agg #[.bool n, .slice (some ⟨w.heap.size, 0, none⟩) 1 1]) (iv n [x]) 1 :=
  ⟨n, [x], _, _, rfl, word_one w x ⟨by omega, hx'⟩, ⟨(word_one w x ⟨by omega, hx'⟩).1, by simp [wid]; omega⟩, fun e => by simp at e, rfl, by simp⟩
set_option maxHeartbeats 6400000 in
set_option maxRecDepth 100000 in
theorem alike8_yes {w : World} {v u : Value} {z y : Int} {k l : Nat} (h : Zc w v z k) (h' : Zc w u y l) (hzy : z = y) :
    Calls Try.prog 27 #[v, u] w fun e w' => e = .returned (.bool true) ∧ Below w.heap.size w w' := by
  subst hzy
  obtain ⟨n, xs, a, c, rfl, s0, q0, e0, z0, k0⟩ := h
  obtain ⟨m, ys, b, d, rfl, s1, q1, e1, z1, k1⟩ := h'
  obtain ⟨rfl, rfl⟩ := iv_one (z0.trans z1.symm) q0 q1 e0 e1
  obtain ⟨W0, hW0⟩ : ∃ W0, (w.alloc (duo (.bool n) (.slice a xs.length c))).alloc (duo (.bool n) (.slice b xs.length d)) = W0 := ⟨_, rfl⟩
  obtain ⟨b0, sz0⟩ := alloc2 w (duo (.bool n) (.slice a xs.length c)) (duo (.bool n) (.slice b xs.length d))
  rw [hW0] at b0 sz0
  have p0 : Hid (Duo W0 w.heap.size (.bool n) (.slice a xs.length c)) := by unfold Hid; rw [← hW0]; exact duo_late (duo_at rfl) _
  have p1 : Hid (Duo W0 (w.heap.size + 1) (.bool n) (.slice b xs.length d)) := by unfold Hid; rw [← hW0]; exact duo_at (by simp)
  have HC := hid (same_yes (s0.now b0) (s1.now b0) rfl)
  have B0 := hid b0
  have EW := hid hW0
  have hq : (n == n) = true := by simp
  clear s0 s1 z0 z1 b0 q0 q1 e0 e1 hW0
  go_enter Try.func27, Try.ntmps27
  go_wp2_with fail
  rw [EW.out]
  refine HC.out.mono ?_
  rintro e w1 ⟨rfl, b1⟩
  have B1 := hid (below_step B0.out b1)
  have i0 := (p0.out.step b1).c0
  have i1 := (p1.out.step b1).c0
  clear b1 HC
  go_wp2
  go_ret
  exact ⟨rfl, B1.out⟩
def GivesC8 (w : World) (z : Int) (k : Nat) (e : Ending) (w' : World) : Prop := ∃ r, e = .returned r ∧ Zc w' r z k ∧ Below w.heap.size w w'
set_option maxHeartbeats 6400000 in
set_option maxRecDepth 100000 in
theorem like8 {w : World} {a0 a1 a2 a3 b0 b1 b2 b3 : Value} {AN AD BN BD : Int} {k l : Nat} (han : Zc w (.agg #[a0, a1]) AN k) (had : Zc w (.agg #[a2, a3]) AD k) (hbn : Zc w (.agg #[b0, b1]) BN l) (hbd : Zc w (.agg #[b2, b3]) BD l) (hn : AN = BN) (hd : AD = BD) :
    Calls Try.prog 21 #[.agg #[a0, a1, a2, a3], .agg #[b0, b1, b2, b3]] w fun e w' => e = .returned (.bool true) ∧ Below w.heap.size w w' := by
  have HN := hid hn
  have HD := hid hd
  clear hn hd
  have zan0 := han
  obtain ⟨nan, xan, adan, can, ev, -, -, -, -, -⟩ := han
  simp only [Value.agg.injEq] at ev
  obtain ⟨rfl, rfl⟩ := pair_eq ev
  have zad0 := had
  obtain ⟨nad, xad, adad, cad, ev, -, -, -, -, -⟩ := had
  simp only [Value.agg.injEq] at ev
  obtain ⟨rfl, rfl⟩ := pair_eq ev
  have zbn0 := hbn
  obtain ⟨nbn, xbn, adbn, cbn, ev, -, -, -, -, -⟩ := hbn
  simp only [Value.agg.injEq] at ev
  obtain ⟨rfl, rfl⟩ := pair_eq ev
  have zbd0 := hbd
  obtain ⟨nbd, xbd, adbd, cbd, ev, -, -, -, -, -⟩ := hbd
  simp only [Value.agg.injEq] at ev
  obtain ⟨rfl, rfl⟩ := pair_eq ev
  obtain ⟨W0, hW⟩ : ∃ W0, (w.alloc (.cells #[(.bool nan), (.slice adan xan.length can), (.bool nad), (.slice adad xad.length cad)] 26)).alloc (.cells #[(.bool nbn), (.slice adbn xbn.length cbn), (.bool nbd), (.slice adbd xbd.length cbd)] 26) = W0 := ⟨_, rfl⟩
  obtain ⟨b0, sz0⟩ := alloc2 w (.cells #[(.bool nan), (.slice adan xan.length can), (.bool nad), (.slice adad xad.length cad)] 26) (.cells #[(.bool nbn), (.slice adbn xbn.length cbn), (.bool nbd), (.slice adbd xbd.length cbd)] 26)
  rw [hW] at b0 sz0
  have Pa : Hid (Cel W0 (w.heap.size) 26 [(.bool nan), (.slice adan xan.length can), (.bool nad), (.slice adad xad.length cad)]) := by unfold Hid; rw [← hW]; exact cel_late (cel_at (by simp)) _
  have Pb : Hid (Cel W0 (w.heap.size + 1) 26 [(.bool nbn), (.slice adbn xbn.length cbn), (.bool nbd), (.slice adbd xbd.length cbd)]) := by unfold Hid; rw [← hW]; exact cel_at (by simp)
  have Zan := hid (zan0.now b0)
  clear zan0
  have Zad := hid (zad0.now b0)
  clear zad0
  have Zbn := hid (zbn0.now b0)
  clear zbn0
  have Zbd := hid (zbd0.now b0)
  clear zbd0
  have G := hid b0
  clear b0
  have EW := hid hW
  clear hW
  go_enter Try.func21, Try.ntmps21
  have ca0 := (Pa.out.at (i := 0) rfl)
  have ca1 := (Pa.out.at (i := 1) rfl)
  have ca2 := (Pa.out.at (i := 2) rfl)
  have ca3 := (Pa.out.at (i := 3) rfl)
  have cb0 := (Pb.out.at (i := 0) rfl)
  have cb1 := (Pb.out.at (i := 1) rfl)
  have cb2 := (Pb.out.at (i := 2) rfl)
  have cb3 := (Pb.out.at (i := 3) rfl)
  rw [← EW.out] at ca0 ca1 ca2 ca3 cb0 cb1 cb2 cb3
  go_wp2_with fail
  rw [EW.out]
  clear EW
  clear ca0 ca1 ca2 ca3 cb0 cb1 cb2 cb3
  refine (alike8_yes Zan.out Zbn.out HN.out).mono ?_
  rintro e w1 ⟨rfl, b⟩
  replace Zan := hid (Zan.out.now b)
  replace Zad := hid (Zad.out.now b)
  replace Zbn := hid (Zbn.out.now b)
  replace Zbd := hid (Zbd.out.now b)
  replace Pa := hid (Pa.out.step b)
  replace Pb := hid (Pb.out.step b)
  replace G := hid (below_step G.out b)
  have lz2 := (show Below _ _ _ from b).size
  clear b 
  have ca0 := (Pa.out.at (i := 0) rfl)
  have ca1 := (Pa.out.at (i := 1) rfl)
  have ca2 := (Pa.out.at (i := 2) rfl)
  have ca3 := (Pa.out.at (i := 3) rfl)
  have cb0 := (Pb.out.at (i := 0) rfl)
  have cb1 := (Pb.out.at (i := 1) rfl)
  have cb2 := (Pb.out.at (i := 2) rfl)
  have cb3 := (Pb.out.at (i := 3) rfl)
  go_wp2_with fail
  clear ca0 ca1 ca2 ca3 cb0 cb1 cb2 cb3
  refine (alike8_yes Zad.out Zbd.out HD.out).mono ?_
  rintro e w3 ⟨rfl, b⟩
  replace Zan := hid (Zan.out.now b)
  replace Zad := hid (Zad.out.now b)
  replace Zbn := hid (Zbn.out.now b)
  replace Zbd := hid (Zbd.out.now b)
  replace Pa := hid (Pa.out.step b)
  replace Pb := hid (Pb.out.step b)
  replace G := hid (below_step G.out b)
  have lz4 := (show Below _ _ _ from b).size
  clear b 
  go_wp2
  go_ret
  exact ⟨rfl, G.out⟩

set_option maxHeartbeats 6400000 in
set_option maxRecDepth 100000 in
theorem is8_yes {w : World} {a0 a1 a2 a3 : Value} {AN AD : Int} {k : Nat} (han : Zi w (.agg #[a0, a1]) AN k) (had : Zi w (.agg #[a2, a3]) AD k) (h : AD ≠ 0) :
    Calls Try.prog 14 #[.agg #[a0, a1, a2, a3]] w fun e w' => e = .returned (.bool true) ∧ Below w.heap.size w w' := by
  have HS : Hid (∀ w' v, Zi w' v AD k → _) := fun (w' : World) (v : Value) (h : Zi w' v AD k) => sign_z h
  have q0 : (cmpI AD 0 != 0) = true := by simp only [bne_iff_ne]; exact fun e => h (cmpI_zero e)
  clear h
  generalize cmpI AD 0 = C at *
  have zan0 := han
  obtain ⟨nan, xan, adan, can, ev, -, -, -⟩ := han
  simp only [Value.agg.injEq] at ev
  obtain ⟨rfl, rfl⟩ := pair_eq ev
  have zad0 := had
  obtain ⟨nad, xad, adad, cad, ev, -, -, -⟩ := had
  simp only [Value.agg.injEq] at ev
  obtain ⟨rfl, rfl⟩ := pair_eq ev
  obtain ⟨W0, hW⟩ : ∃ W0, w.alloc (.cells #[(.bool nan), (.slice adan xan.length can), (.bool nad), (.slice adad xad.length cad)] 26) = W0 := ⟨_, rfl⟩
  obtain ⟨b0, sz0⟩ := alloc1 w (.cells #[(.bool nan), (.slice adan xan.length can), (.bool nad), (.slice adad xad.length cad)] 26)
  rw [hW] at b0 sz0
  have Pa : Hid (Cel W0 (w.heap.size) 26 [(.bool nan), (.slice adan xan.length can), (.bool nad), (.slice adad xad.length cad)]) := by unfold Hid; rw [← hW]; exact cel_at (by simp)
  have Zan := hid (zan0.now b0)
  clear zan0
  have Zad := hid (zad0.now b0)
  clear zad0
  have G := hid b0
  clear b0
  have EW := hid hW
  clear hW
  go_enter Try.func14, Try.ntmps14
  have ca0 := (Pa.out.at (i := 0) rfl)
  have ca1 := (Pa.out.at (i := 1) rfl)
  have ca2 := (Pa.out.at (i := 2) rfl)
  have ca3 := (Pa.out.at (i := 3) rfl)
  rw [← EW.out] at ca0 ca1 ca2 ca3
  go_wp2_with fail
  rw [EW.out]
  clear EW
  clear ca0 ca1 ca2 ca3
  refine (HS.out _ _ Zad.out).mono ?_
  rintro e w1 ⟨rfl, b⟩
  replace Zan := hid (Zan.out.now b)
  replace Zad := hid (Zad.out.now b)
  replace Pa := hid (Pa.out.step b)
  replace G := hid (below_step G.out b)
  have lz2 := (show Below _ _ _ from b).size
  clear b 
  go_wp2
  go_ret
  exact ⟨rfl, G.out⟩

set_option maxHeartbeats 6400000 in
set_option maxRecDepth 100000 in
theorem is8_no {w : World} {a0 a1 a2 a3 : Value} {AN AD : Int} {k : Nat} (han : Zi w (.agg #[a0, a1]) AN k) (had : Zi w (.agg #[a2, a3]) AD k) (h : AD = 0) :
    Calls Try.prog 14 #[.agg #[a0, a1, a2, a3]] w fun e w' => e = .returned (.bool false) ∧ Below w.heap.size w w' := by
  have HS : Hid (∀ w' v, Zi w' v AD k → Calls Try.prog 19 #[v] w' fun e w'' => e = .returned (.int .i64 0) ∧ Below w'.heap.size w' w'') := fun w' v h' => by
    have q := sign_z h'
    rw [h, cmpI_self] at q
    exact q
  have q0 : ((0 : Int) != 0) = false := rfl
  clear h
  have zan0 := han
  obtain ⟨nan, xan, adan, can, ev, -, -, -⟩ := han
  simp only [Value.agg.injEq] at ev
  obtain ⟨rfl, rfl⟩ := pair_eq ev
  have zad0 := had
  obtain ⟨nad, xad, adad, cad, ev, -, -, -⟩ := had
  simp only [Value.agg.injEq] at ev
  obtain ⟨rfl, rfl⟩ := pair_eq ev
  obtain ⟨W0, hW⟩ : ∃ W0, w.alloc (.cells #[(.bool nan), (.slice adan xan.length can), (.bool nad), (.slice adad xad.length cad)] 26) = W0 := ⟨_, rfl⟩
  obtain ⟨b0, sz0⟩ := alloc1 w (.cells #[(.bool nan), (.slice adan xan.length can), (.bool nad), (.slice adad xad.length cad)] 26)
  rw [hW] at b0 sz0
  have Pa : Hid (Cel W0 (w.heap.size) 26 [(.bool nan), (.slice adan xan.length can), (.bool nad), (.slice adad xad.length cad)]) := by unfold Hid; rw [← hW]; exact cel_at (by simp)
  have Zan := hid (zan0.now b0)
  clear zan0
  have Zad := hid (zad0.now b0)
  clear zad0
  have G := hid b0
  clear b0
  have EW := hid hW
  clear hW
  go_enter Try.func14, Try.ntmps14
  have ca0 := (Pa.out.at (i := 0) rfl)
  have ca1 := (Pa.out.at (i := 1) rfl)
  have ca2 := (Pa.out.at (i := 2) rfl)
  have ca3 := (Pa.out.at (i := 3) rfl)
  rw [← EW.out] at ca0 ca1 ca2 ca3
  go_wp2_with fail
  rw [EW.out]
  clear EW
  clear ca0 ca1 ca2 ca3
  refine (HS.out _ _ Zad.out).mono ?_
  rintro e w1 ⟨rfl, b⟩
  replace Zan := hid (Zan.out.now b)
  replace Zad := hid (Zad.out.now b)
  replace Pa := hid (Pa.out.step b)
  replace G := hid (below_step G.out b)
  have lz2 := (show Below _ _ _ from b).size
  clear b 
  go_wp2
  go_ret
  exact ⟨rfl, G.out⟩

theorem reduced_gcd (q : Rat) : (Int.gcd q.num (q.den : Int) : Int) = 1 := by
  have := q.reduced
  unfold Int.gcd
  simp only [Int.natAbs_natCast]
  exact_mod_cast this
theorem cmpI_den (q : Rat) : cmpI (q.den : Int) 0 = 1 := by
  have := q.den_pos
  rcases cmp_cases (q.den : Int) 0 with ⟨_, h⟩ | ⟨_, h⟩ | ⟨_, h⟩ <;> omega
set_option maxHeartbeats 6400000 in
set_option maxRecDepth 100000 in
theorem lowest8 {w : World} {a0 a1 a2 a3 : Value} {q : Rat} {k : Nat} (han : Zc w (.agg #[a0, a1]) q.num k) (had : Zc w (.agg #[a2, a3]) (q.den : Int) k) (hk : k ≤ 68719476736) :
    Calls Try.prog 30 #[.agg #[a0, a1, a2, a3]] w fun e w' => e = .returned (.bool true) ∧ Below w.heap.size w w' := by
  have HG := hid (reduced_gcd q)
  have HS : Hid (∀ w' v, Zi w' v (q.den : Int) k → Calls Try.prog 19 #[v] w' fun e w'' => e = .returned (.int .i64 1) ∧ Below w'.heap.size w' w'') := fun w' v h' => by
    have p := sign_z h'
    rw [cmpI_den] at p
    exact p
  generalize q.num = AN at *
  generalize (q.den : Int) = AD at *
  have q1 : (0 : Int) < 1 := by decide
  have zan0 := han
  obtain ⟨nan, xan, adan, can, ev, -, -, -, -, -⟩ := han
  simp only [Value.agg.injEq] at ev
  obtain ⟨rfl, rfl⟩ := pair_eq ev
  have zad0 := had
  obtain ⟨nad, xad, adad, cad, ev, -, -, -, -, -⟩ := had
  simp only [Value.agg.injEq] at ev
  obtain ⟨rfl, rfl⟩ := pair_eq ev
  obtain ⟨W0, hW⟩ : ∃ W0, w.alloc (.cells #[(.bool nan), (.slice adan xan.length can), (.bool nad), (.slice adad xad.length cad)] 26) = W0 := ⟨_, rfl⟩
  obtain ⟨b0, sz0⟩ := alloc1 w (.cells #[(.bool nan), (.slice adan xan.length can), (.bool nad), (.slice adad xad.length cad)] 26)
  rw [hW] at b0 sz0
  have Pa : Hid (Cel W0 (w.heap.size) 26 [(.bool nan), (.slice adan xan.length can), (.bool nad), (.slice adad xad.length cad)]) := by unfold Hid; rw [← hW]; exact cel_at (by simp)
  have Zan := hid (zan0.now b0)
  clear zan0
  have Zad := hid (zad0.now b0)
  clear zad0
  have G := hid b0
  clear b0
  have EW := hid hW
  clear hW
  go_enter Try.func30, Try.ntmps30
  have ca0 := (Pa.out.at (i := 0) rfl)
  have ca1 := (Pa.out.at (i := 1) rfl)
  have ca2 := (Pa.out.at (i := 2) rfl)
  have ca3 := (Pa.out.at (i := 3) rfl)
  rw [← EW.out] at ca0 ca1 ca2 ca3
  go_wp2_with fail
  rw [EW.out]
  clear EW
  clear ca0 ca1 ca2 ca3
  refine (gcd_z Zan.out.zi Zad.out.zi hk).mono ?_
  rintro e w1 ⟨r0, rfl, m0, b⟩
  obtain ⟨ng, xg, adg, qg, rfl, -, -, -, -, -⟩ := id m0
  replace Zan := hid (Zan.out.now b)
  replace Zad := hid (Zad.out.now b)
  replace Pa := hid (Pa.out.step b)
  replace G := hid (below_step G.out b)
  have lz2 := (show Below _ _ _ from b).size
  have Zg := hid m0
  clear b m0
  obtain ⟨V3, hW⟩ : ∃ V3, w1.alloc (duo (.bool ng) (.slice adg xg.length qg)) = V3 := ⟨_, rfl⟩
  obtain ⟨kW, sz3⟩ := alloc1 w1 (duo (.bool ng) (.slice adg xg.length qg))
  rw [hW] at kW sz3
  replace Zan := hid (Zan.out.now kW)
  replace Zad := hid (Zad.out.now kW)
  replace Zg := hid (Zg.out.now kW)
  replace Pa := hid (Pa.out.step kW)
  replace G := hid (below_step G.out kW)
  have lz4 := (show Below _ _ _ from kW).size
  have PG1 : Hid (Duo V3 (w1.heap.size) (.bool ng) (.slice adg xg.length qg)) := by unfold Hid; rw [← hW]; exact duo_at (by simp)
  clear kW
  have EW := hid hW
  clear hW
  go_wp2_with fail
  rw [EW.out]
  clear EW
  refine wp_region_tail (fun w' => w'.cell? ⟨w.heap.size, 0, none⟩ = some (.bool nan) ∧ w'.cell? ⟨w.heap.size, 1, none⟩ = some (.slice adan xan.length can) ∧ w'.cell? ⟨w.heap.size, 2, none⟩ = some (.bool nad) ∧ w'.cell? ⟨w.heap.size, 3, none⟩ = some (.slice adad xad.length cad) ∧ w'.cell? ⟨w1.heap.size, 0, none⟩ = some (.bool ng) ∧ w'.cell? ⟨w1.heap.size, 1, none⟩ = some (.slice adg xg.length qg)) 25 (by kernel_rfl) ?_
  obtain ⟨D5, hD⟩ : ∃ D5, V3.drew = D5 := ⟨_, rfl⟩
  have b : Below V3.heap.size V3 D5 := by rw [← hD]; exact (Below.refl _ _).drew
  rw [hD]
  clear hD
  replace Zan := hid (Zan.out.now b)
  replace Zad := hid (Zad.out.now b)
  replace Zg := hid (Zg.out.now b)
  replace Pa := hid (Pa.out.step b)
  replace PG1 := hid (PG1.out.step b)
  replace G := hid (below_step G.out b)
  have lz6 := (show Below _ _ _ from b).size
  clear b
  refine wpAnyT_take (i := 0) (oi := { dst := some 9, op := Op.fieldAddr 26 (Operand.tmp 1) 1, type := 0, pos := "outright.go:18", after := #[], guard := none }) (v := (.pointer (some ⟨w.heap.size, 2, none⟩))) rfl (by kernel_rfl) (fun _ _ _ h => h) (Or.inl ⟨by rfl, ?_⟩) ⟨(Pa.out.at (i := 0) rfl), (Pa.out.at (i := 1) rfl), (Pa.out.at (i := 2) rfl), (Pa.out.at (i := 3) rfl), PG1.out.c0, PG1.out.c1⟩ ?_
  · intro w hSw
    (try dsimp only at hSw)
    go_simp
  simp only [Act.put, List.setIfInBounds_toArray, List.set_cons_zero, List.set_cons_succ]
  refine wpAnyT_take (i := 1) (oi := { dst := some 10, op := Op.load 24 (Operand.tmp 9), type := 24, pos := "outright.go:18", after := #[{ on := 0, ground := Ground.data }], guard := none }) (v := (.agg #[(.bool nad), (.slice adad xad.length cad)])) rfl (by kernel_rfl) (fun _ _ _ h => h) (Or.inl ⟨by rfl, ?_⟩) ⟨(Pa.out.at (i := 0) rfl), (Pa.out.at (i := 1) rfl), (Pa.out.at (i := 2) rfl), (Pa.out.at (i := 3) rfl), PG1.out.c0, PG1.out.c1⟩ ?_
  · intro w hSw
    (try dsimp only at hSw)
    go_simp
  simp only [Act.put, List.setIfInBounds_toArray, List.set_cons_zero, List.set_cons_succ]
  refine wpAnyT_one (i := 2) (o := { dst := some 11, op := Op.call { callee := Callee.value (Operand.func 19), args := #[Operand.tmp 10], argTypes := #[24] }, type := 3, pos := "outright.go:18", after := #[{ on := 1, ground := Ground.data }], guard := none }) (by kernel_rfl) rfl (fun K hK => ?_)
  go_simp
  go_at_call 19
  refine (HS.out _ _ Zad.out.zi).mono ?_
  rintro e w7 ⟨rfl, b⟩
  replace Zan := hid (Zan.out.now b)
  replace Zad := hid (Zad.out.now b)
  replace Zg := hid (Zg.out.now b)
  replace Pa := hid (Pa.out.step b)
  replace PG1 := hid (PG1.out.step b)
  replace G := hid (below_step G.out b)
  have lz8 := (show Below _ _ _ from b).size
  clear b 
  refine hK.out _ _ (fun _ => ⟨(Pa.out.at (i := 0) rfl), (Pa.out.at (i := 1) rfl), (Pa.out.at (i := 2) rfl), (Pa.out.at (i := 3) rfl), PG1.out.c0, PG1.out.c1⟩) ?_
  clear hK
  refine wpAnyT_take (i := 3) (oi := { dst := some 12, op := Op.binOp BinOp.gtr 3 (Operand.tmp 11) (Operand.const (Value.int IntKind.i64 0)) 3, type := 4, pos := "outright.go:18", after := #[{ on := 2, ground := Ground.data }], guard := none }) (v := (.bool true)) rfl (by kernel_rfl) (fun _ _ _ h => h) (Or.inl ⟨by rfl, ?_⟩) ⟨(Pa.out.at (i := 0) rfl), (Pa.out.at (i := 1) rfl), (Pa.out.at (i := 2) rfl), (Pa.out.at (i := 3) rfl), PG1.out.c0, PG1.out.c1⟩ ?_
  · intro w hSw
    (try dsimp only at hSw)
    go_simp
  simp only [Act.put, List.setIfInBounds_toArray, List.set_cons_zero, List.set_cons_succ]
  refine wpAnyT_take (i := 4) (oi := { dst := some 13, op := Op.move (Operand.tmp 12), type := 4, pos := "outright.go:18", after := #[{ on := 3, ground := Ground.data }, { on := 2, ground := Ground.chain }], guard := none }) (v := (.bool true)) rfl (by kernel_rfl) (fun _ _ _ h => h) (Or.inl ⟨by rfl, ?_⟩) ⟨(Pa.out.at (i := 0) rfl), (Pa.out.at (i := 1) rfl), (Pa.out.at (i := 2) rfl), (Pa.out.at (i := 3) rfl), PG1.out.c0, PG1.out.c1⟩ ?_
  · intro w hSw
    (try dsimp only at hSw)
    go_simp
  simp only [Act.put, List.setIfInBounds_toArray, List.set_cons_zero, List.set_cons_succ]
  refine wpAnyT_take (i := 5) (oi := { dst := some 14, op := Op.load 24 (Operand.tmp 3), type := 24, pos := "outright.go:18", after := #[{ on := 4, ground := Ground.guard }], guard := some (4, true) }) (v := (.agg #[(.bool ng), (.slice adg xg.length qg)])) rfl (by kernel_rfl) (fun _ _ _ h => h) (Or.inl ⟨by rfl, ?_⟩) ⟨(Pa.out.at (i := 0) rfl), (Pa.out.at (i := 1) rfl), (Pa.out.at (i := 2) rfl), (Pa.out.at (i := 3) rfl), PG1.out.c0, PG1.out.c1⟩ ?_
  · intro w hSw
    (try dsimp only at hSw)
    go_simp
  simp only [Act.put, List.setIfInBounds_toArray, List.set_cons_zero, List.set_cons_succ]
  refine wpAnyT_one (i := 6) (o := { dst := some 15, op := Op.call { callee := Callee.value (Operand.func 20), args := #[Operand.const (Value.int IntKind.i64 1)], argTypes := #[2] }, type := 24, pos := "outright.go:18", after := #[{ on := 4, ground := Ground.chain }, { on := 4, ground := Ground.guard }], guard := some (4, true) }) (by kernel_rfl) rfl (fun K hK => ?_)
  go_simp
  go_at_call 20
  refine (of_z (n := 1) (by decide) (by decide) _).mono ?_
  rintro e w9 ⟨r0, rfl, m0, b⟩
  obtain ⟨nu, xu, adu, qu, rfl, -, -, -, -, -⟩ := id m0
  replace Zan := hid (Zan.out.now b)
  replace Zad := hid (Zad.out.now b)
  replace Zg := hid (Zg.out.now b)
  replace Pa := hid (Pa.out.step b)
  replace PG1 := hid (PG1.out.step b)
  replace G := hid (below_step G.out b)
  have lz10 := (show Below _ _ _ from b).size
  have Zu := hid m0
  clear b m0
  refine hK.out _ _ (fun _ => ⟨(Pa.out.at (i := 0) rfl), (Pa.out.at (i := 1) rfl), (Pa.out.at (i := 2) rfl), (Pa.out.at (i := 3) rfl), PG1.out.c0, PG1.out.c1⟩) ?_
  clear hK
  refine wpAnyT_one (i := 7) (o := { dst := some 16, op := Op.call { callee := Callee.value (Operand.func 27), args := #[Operand.tmp 14, Operand.tmp 15], argTypes := #[24, 24] }, type := 4, pos := "outright.go:18", after := #[{ on := 5, ground := Ground.data }, { on := 6, ground := Ground.data }, { on := 6, ground := Ground.chain }, { on := 4, ground := Ground.guard }], guard := some (4, true) }) (by kernel_rfl) rfl (fun K hK => ?_)
  go_simp
  go_at_call 27
  refine (alike8_yes Zg.out.zc Zu.out.zc HG.out).mono ?_
  rintro e w11 ⟨rfl, b⟩
  replace Zan := hid (Zan.out.now b)
  replace Zad := hid (Zad.out.now b)
  replace Zg := hid (Zg.out.now b)
  replace Zu := hid (Zu.out.now b)
  replace Pa := hid (Pa.out.step b)
  replace PG1 := hid (PG1.out.step b)
  replace G := hid (below_step G.out b)
  have lz12 := (show Below _ _ _ from b).size
  clear b 
  refine hK.out _ _ (fun _ => ⟨(Pa.out.at (i := 0) rfl), (Pa.out.at (i := 1) rfl), (Pa.out.at (i := 2) rfl), (Pa.out.at (i := 3) rfl), PG1.out.c0, PG1.out.c1⟩) ?_
  clear hK
  refine wpAnyT_take (i := 8) (oi := { dst := some 17, op := Op.pick (Operand.tmp 13) (Operand.tmp 16) (Operand.const (Value.bool false)), type := 4, pos := "outright.go:18", after := #[{ on := 4, ground := Ground.data }, { on := 7, ground := Ground.data }], guard := none }) (v := (.bool true)) rfl (by kernel_rfl) (fun _ _ _ h => h) (Or.inl ⟨by rfl, ?_⟩) ⟨(Pa.out.at (i := 0) rfl), (Pa.out.at (i := 1) rfl), (Pa.out.at (i := 2) rfl), (Pa.out.at (i := 3) rfl), PG1.out.c0, PG1.out.c1⟩ ?_
  · intro w hSw
    (try dsimp only at hSw)
    go_simp
  simp only [Act.put, List.setIfInBounds_toArray, List.set_cons_zero, List.set_cons_succ]
  refine wpAnyT_take (i := 9) (oi := { dst := some 18, op := Op.move (Operand.tmp 17), type := 4, pos := "outright.go:18", after := #[{ on := 8, ground := Ground.data }, { on := 7, ground := Ground.chain }], guard := none }) (v := (.bool true)) rfl (by kernel_rfl) (fun _ _ _ h => h) (Or.inl ⟨by rfl, ?_⟩) ⟨(Pa.out.at (i := 0) rfl), (Pa.out.at (i := 1) rfl), (Pa.out.at (i := 2) rfl), (Pa.out.at (i := 3) rfl), PG1.out.c0, PG1.out.c1⟩ ?_
  · intro w hSw
    (try dsimp only at hSw)
    go_simp
  simp only [Act.put, List.setIfInBounds_toArray, List.set_cons_zero, List.set_cons_succ]
  refine wpAnyT_take (i := 10) (oi := { dst := some 19, op := Op.fieldAddr 26 (Operand.tmp 1) 0, type := 0, pos := "outright.go:18", after := #[{ on := 9, ground := Ground.guard }], guard := some (9, true) }) (v := (.pointer (some ⟨w.heap.size, 0, none⟩))) rfl (by kernel_rfl) (fun _ _ _ h => h) (Or.inl ⟨by rfl, ?_⟩) ⟨(Pa.out.at (i := 0) rfl), (Pa.out.at (i := 1) rfl), (Pa.out.at (i := 2) rfl), (Pa.out.at (i := 3) rfl), PG1.out.c0, PG1.out.c1⟩ ?_
  · intro w hSw
    (try dsimp only at hSw)
    go_simp
  simp only [Act.put, List.setIfInBounds_toArray, List.set_cons_zero, List.set_cons_succ]
  refine wpAnyT_take (i := 11) (oi := { dst := some 20, op := Op.load 24 (Operand.tmp 19), type := 24, pos := "outright.go:18", after := #[{ on := 10, ground := Ground.data }, { on := 9, ground := Ground.guard }], guard := some (9, true) }) (v := (.agg #[(.bool nan), (.slice adan xan.length can)])) rfl (by kernel_rfl) (fun _ _ _ h => h) (Or.inl ⟨by rfl, ?_⟩) ⟨(Pa.out.at (i := 0) rfl), (Pa.out.at (i := 1) rfl), (Pa.out.at (i := 2) rfl), (Pa.out.at (i := 3) rfl), PG1.out.c0, PG1.out.c1⟩ ?_
  · intro w hSw
    (try dsimp only at hSw)
    go_simp
  simp only [Act.put, List.setIfInBounds_toArray, List.set_cons_zero, List.set_cons_succ]
  refine wpAnyT_take (i := 12) (oi := { dst := some 21, op := Op.fieldAddr 26 (Operand.tmp 1) 0, type := 0, pos := "outright.go:18", after := #[{ on := 9, ground := Ground.guard }], guard := some (9, true) }) (v := (.pointer (some ⟨w.heap.size, 0, none⟩))) rfl (by kernel_rfl) (fun _ _ _ h => h) (Or.inl ⟨by rfl, ?_⟩) ⟨(Pa.out.at (i := 0) rfl), (Pa.out.at (i := 1) rfl), (Pa.out.at (i := 2) rfl), (Pa.out.at (i := 3) rfl), PG1.out.c0, PG1.out.c1⟩ ?_
  · intro w hSw
    (try dsimp only at hSw)
    go_simp
  simp only [Act.put, List.setIfInBounds_toArray, List.set_cons_zero, List.set_cons_succ]
  refine wpAnyT_take (i := 13) (oi := { dst := some 22, op := Op.load 24 (Operand.tmp 21), type := 24, pos := "outright.go:18", after := #[{ on := 12, ground := Ground.data }, { on := 9, ground := Ground.guard }], guard := some (9, true) }) (v := (.agg #[(.bool nan), (.slice adan xan.length can)])) rfl (by kernel_rfl) (fun _ _ _ h => h) (Or.inl ⟨by rfl, ?_⟩) ⟨(Pa.out.at (i := 0) rfl), (Pa.out.at (i := 1) rfl), (Pa.out.at (i := 2) rfl), (Pa.out.at (i := 3) rfl), PG1.out.c0, PG1.out.c1⟩ ?_
  · intro w hSw
    (try dsimp only at hSw)
    go_simp
  simp only [Act.put, List.setIfInBounds_toArray, List.set_cons_zero, List.set_cons_succ]
  refine wpAnyT_one (i := 14) (o := { dst := some 23, op := Op.call { callee := Callee.value (Operand.func 52), args := #[Operand.tmp 22], argTypes := #[24] }, type := 24, pos := "outright.go:18", after := #[{ on := 13, ground := Ground.data }, { on := 9, ground := Ground.chain }, { on := 9, ground := Ground.guard }], guard := some (9, true) }) (by kernel_rfl) rfl (fun K hK => ?_)
  go_simp
  go_at_call 52
  refine (least_z Zan.out.zi).mono ?_
  rintro e w13 ⟨r0, rfl, m0, b⟩
  obtain ⟨np, xp, adp, qp, rfl, -, -, -, -, -⟩ := id m0
  replace Zan := hid (Zan.out.now b)
  replace Zad := hid (Zad.out.now b)
  replace Zg := hid (Zg.out.now b)
  replace Zu := hid (Zu.out.now b)
  replace Pa := hid (Pa.out.step b)
  replace PG1 := hid (PG1.out.step b)
  replace G := hid (below_step G.out b)
  have lz14 := (show Below _ _ _ from b).size
  have Zp := hid m0
  clear b m0
  refine hK.out _ _ (fun _ => ⟨(Pa.out.at (i := 0) rfl), (Pa.out.at (i := 1) rfl), (Pa.out.at (i := 2) rfl), (Pa.out.at (i := 3) rfl), PG1.out.c0, PG1.out.c1⟩) ?_
  clear hK
  refine wpAnyT_one (i := 15) (o := { dst := some 24, op := Op.call { callee := Callee.value (Operand.func 27), args := #[Operand.tmp 20, Operand.tmp 23], argTypes := #[24, 24] }, type := 4, pos := "outright.go:18", after := #[{ on := 11, ground := Ground.data }, { on := 14, ground := Ground.data }, { on := 14, ground := Ground.chain }, { on := 9, ground := Ground.guard }], guard := some (9, true) }) (by kernel_rfl) rfl (fun K hK => ?_)
  go_simp
  go_at_call 27
  refine (alike8_yes Zan.out Zp.out.zc rfl).mono ?_
  rintro e w15 ⟨rfl, b⟩
  replace Zan := hid (Zan.out.now b)
  replace Zad := hid (Zad.out.now b)
  replace Zg := hid (Zg.out.now b)
  replace Zu := hid (Zu.out.now b)
  replace Zp := hid (Zp.out.now b)
  replace Pa := hid (Pa.out.step b)
  replace PG1 := hid (PG1.out.step b)
  replace G := hid (below_step G.out b)
  have lz16 := (show Below _ _ _ from b).size
  clear b 
  refine hK.out _ _ (fun _ => ⟨(Pa.out.at (i := 0) rfl), (Pa.out.at (i := 1) rfl), (Pa.out.at (i := 2) rfl), (Pa.out.at (i := 3) rfl), PG1.out.c0, PG1.out.c1⟩) ?_
  clear hK
  refine wpAnyT_take (i := 16) (oi := { dst := some 25, op := Op.pick (Operand.tmp 18) (Operand.tmp 24) (Operand.const (Value.bool false)), type := 4, pos := "outright.go:18", after := #[{ on := 9, ground := Ground.data }, { on := 15, ground := Ground.data }], guard := none }) (v := (.bool true)) rfl (by kernel_rfl) (fun _ _ _ h => h) (Or.inl ⟨by rfl, ?_⟩) ⟨(Pa.out.at (i := 0) rfl), (Pa.out.at (i := 1) rfl), (Pa.out.at (i := 2) rfl), (Pa.out.at (i := 3) rfl), PG1.out.c0, PG1.out.c1⟩ ?_
  · intro w hSw
    (try dsimp only at hSw)
    go_simp
  simp only [Act.put, List.setIfInBounds_toArray, List.set_cons_zero, List.set_cons_succ]
  refine wpAnyT_take (i := 17) (oi := { dst := some 26, op := Op.move (Operand.tmp 25), type := 4, pos := "outright.go:18", after := #[{ on := 16, ground := Ground.data }, { on := 15, ground := Ground.chain }], guard := none }) (v := (.bool true)) rfl (by kernel_rfl) (fun _ _ _ h => h) (Or.inl ⟨by rfl, ?_⟩) ⟨(Pa.out.at (i := 0) rfl), (Pa.out.at (i := 1) rfl), (Pa.out.at (i := 2) rfl), (Pa.out.at (i := 3) rfl), PG1.out.c0, PG1.out.c1⟩ ?_
  · intro w hSw
    (try dsimp only at hSw)
    go_simp
  simp only [Act.put, List.setIfInBounds_toArray, List.set_cons_zero, List.set_cons_succ]
  refine wpAnyT_take (i := 18) (oi := { dst := some 27, op := Op.fieldAddr 26 (Operand.tmp 1) 1, type := 0, pos := "outright.go:18", after := #[{ on := 17, ground := Ground.guard }], guard := some (17, true) }) (v := (.pointer (some ⟨w.heap.size, 2, none⟩))) rfl (by kernel_rfl) (fun _ _ _ h => h) (Or.inl ⟨by rfl, ?_⟩) ⟨(Pa.out.at (i := 0) rfl), (Pa.out.at (i := 1) rfl), (Pa.out.at (i := 2) rfl), (Pa.out.at (i := 3) rfl), PG1.out.c0, PG1.out.c1⟩ ?_
  · intro w hSw
    (try dsimp only at hSw)
    go_simp
  simp only [Act.put, List.setIfInBounds_toArray, List.set_cons_zero, List.set_cons_succ]
  refine wpAnyT_take (i := 19) (oi := { dst := some 28, op := Op.load 24 (Operand.tmp 27), type := 24, pos := "outright.go:18", after := #[{ on := 18, ground := Ground.data }, { on := 17, ground := Ground.guard }], guard := some (17, true) }) (v := (.agg #[(.bool nad), (.slice adad xad.length cad)])) rfl (by kernel_rfl) (fun _ _ _ h => h) (Or.inl ⟨by rfl, ?_⟩) ⟨(Pa.out.at (i := 0) rfl), (Pa.out.at (i := 1) rfl), (Pa.out.at (i := 2) rfl), (Pa.out.at (i := 3) rfl), PG1.out.c0, PG1.out.c1⟩ ?_
  · intro w hSw
    (try dsimp only at hSw)
    go_simp
  simp only [Act.put, List.setIfInBounds_toArray, List.set_cons_zero, List.set_cons_succ]
  refine wpAnyT_take (i := 20) (oi := { dst := some 29, op := Op.fieldAddr 26 (Operand.tmp 1) 1, type := 0, pos := "outright.go:18", after := #[{ on := 17, ground := Ground.guard }], guard := some (17, true) }) (v := (.pointer (some ⟨w.heap.size, 2, none⟩))) rfl (by kernel_rfl) (fun _ _ _ h => h) (Or.inl ⟨by rfl, ?_⟩) ⟨(Pa.out.at (i := 0) rfl), (Pa.out.at (i := 1) rfl), (Pa.out.at (i := 2) rfl), (Pa.out.at (i := 3) rfl), PG1.out.c0, PG1.out.c1⟩ ?_
  · intro w hSw
    (try dsimp only at hSw)
    go_simp
  simp only [Act.put, List.setIfInBounds_toArray, List.set_cons_zero, List.set_cons_succ]
  refine wpAnyT_take (i := 21) (oi := { dst := some 30, op := Op.load 24 (Operand.tmp 29), type := 24, pos := "outright.go:18", after := #[{ on := 20, ground := Ground.data }, { on := 17, ground := Ground.guard }], guard := some (17, true) }) (v := (.agg #[(.bool nad), (.slice adad xad.length cad)])) rfl (by kernel_rfl) (fun _ _ _ h => h) (Or.inl ⟨by rfl, ?_⟩) ⟨(Pa.out.at (i := 0) rfl), (Pa.out.at (i := 1) rfl), (Pa.out.at (i := 2) rfl), (Pa.out.at (i := 3) rfl), PG1.out.c0, PG1.out.c1⟩ ?_
  · intro w hSw
    (try dsimp only at hSw)
    go_simp
  simp only [Act.put, List.setIfInBounds_toArray, List.set_cons_zero, List.set_cons_succ]
  refine wpAnyT_one (i := 22) (o := { dst := some 31, op := Op.call { callee := Callee.value (Operand.func 52), args := #[Operand.tmp 30], argTypes := #[24] }, type := 24, pos := "outright.go:18", after := #[{ on := 21, ground := Ground.data }, { on := 17, ground := Ground.chain }, { on := 17, ground := Ground.guard }], guard := some (17, true) }) (by kernel_rfl) rfl (fun K hK => ?_)
  go_simp
  go_at_call 52
  refine (least_z Zad.out.zi).mono ?_
  rintro e w17 ⟨r0, rfl, m0, b⟩
  obtain ⟨nq, xq, adq, qq, rfl, -, -, -, -, -⟩ := id m0
  replace Zan := hid (Zan.out.now b)
  replace Zad := hid (Zad.out.now b)
  replace Zg := hid (Zg.out.now b)
  replace Zu := hid (Zu.out.now b)
  replace Zp := hid (Zp.out.now b)
  replace Pa := hid (Pa.out.step b)
  replace PG1 := hid (PG1.out.step b)
  replace G := hid (below_step G.out b)
  have lz18 := (show Below _ _ _ from b).size
  have Zq := hid m0
  clear b m0
  refine hK.out _ _ (fun _ => ⟨(Pa.out.at (i := 0) rfl), (Pa.out.at (i := 1) rfl), (Pa.out.at (i := 2) rfl), (Pa.out.at (i := 3) rfl), PG1.out.c0, PG1.out.c1⟩) ?_
  clear hK
  refine wpAnyT_one (i := 23) (o := { dst := some 32, op := Op.call { callee := Callee.value (Operand.func 27), args := #[Operand.tmp 28, Operand.tmp 31], argTypes := #[24, 24] }, type := 4, pos := "outright.go:18", after := #[{ on := 19, ground := Ground.data }, { on := 22, ground := Ground.data }, { on := 22, ground := Ground.chain }, { on := 17, ground := Ground.guard }], guard := some (17, true) }) (by kernel_rfl) rfl (fun K hK => ?_)
  go_simp
  go_at_call 27
  refine (alike8_yes Zad.out Zq.out.zc rfl).mono ?_
  rintro e w19 ⟨rfl, b⟩
  replace Zan := hid (Zan.out.now b)
  replace Zad := hid (Zad.out.now b)
  replace Zg := hid (Zg.out.now b)
  replace Zu := hid (Zu.out.now b)
  replace Zp := hid (Zp.out.now b)
  replace Zq := hid (Zq.out.now b)
  replace Pa := hid (Pa.out.step b)
  replace PG1 := hid (PG1.out.step b)
  replace G := hid (below_step G.out b)
  have lz20 := (show Below _ _ _ from b).size
  clear b 
  refine hK.out _ _ (fun _ => ⟨(Pa.out.at (i := 0) rfl), (Pa.out.at (i := 1) rfl), (Pa.out.at (i := 2) rfl), (Pa.out.at (i := 3) rfl), PG1.out.c0, PG1.out.c1⟩) ?_
  clear hK
  refine wpAnyT_take (i := 24) (oi := { dst := some 33, op := Op.pick (Operand.tmp 26) (Operand.tmp 32) (Operand.const (Value.bool false)), type := 4, pos := "outright.go:18", after := #[{ on := 17, ground := Ground.data }, { on := 23, ground := Ground.data }], guard := none }) (v := (.bool true)) rfl (by kernel_rfl) (fun _ _ _ h => h) (Or.inl ⟨by rfl, ?_⟩) ⟨(Pa.out.at (i := 0) rfl), (Pa.out.at (i := 1) rfl), (Pa.out.at (i := 2) rfl), (Pa.out.at (i := 3) rfl), PG1.out.c0, PG1.out.c1⟩ ?_
  · intro w hSw
    (try dsimp only at hSw)
    go_simp
  simp only [Act.put, List.setIfInBounds_toArray, List.set_cons_zero, List.set_cons_succ]
  refine wpAnyT_one (i := 25) (o := { dst := some 2, op := Op.assign (Operand.tmp 33), type := 4, pos := "outright.go:18", after := #[{ on := 24, ground := Ground.data }, { on := 23, ground := Ground.chain }, { on := 0, ground := Ground.phase }, { on := 1, ground := Ground.phase }, { on := 2, ground := Ground.phase }, { on := 3, ground := Ground.phase }, { on := 4, ground := Ground.phase }, { on := 5, ground := Ground.phase }, { on := 6, ground := Ground.phase }, { on := 7, ground := Ground.phase }, { on := 8, ground := Ground.phase }, { on := 9, ground := Ground.phase }, { on := 10, ground := Ground.phase }, { on := 11, ground := Ground.phase }, { on := 12, ground := Ground.phase }, { on := 13, ground := Ground.phase }, { on := 14, ground := Ground.phase }, { on := 15, ground := Ground.phase }, { on := 16, ground := Ground.phase }, { on := 17, ground := Ground.phase }, { on := 18, ground := Ground.phase }, { on := 19, ground := Ground.phase }, { on := 20, ground := Ground.phase }, { on := 21, ground := Ground.phase }, { on := 22, ground := Ground.phase }, { on := 23, ground := Ground.phase }, { on := 24, ground := Ground.phase }], guard := none }) (by kernel_rfl) rfl (fun K hK => ?_)
  go_simp
  refine hK.out _ _ (fun h => absurd h (by decide)) ?_
  clear hK
  try simp only [Act.put]
  refine wpAnyT_done (by kernel_rfl) ?_ _
  go_wp2
  go_ret
  exact ⟨rfl, G.out⟩

set_option maxHeartbeats 6400000 in
set_option maxRecDepth 100000 in
theorem names8 {w : World} {f0 f1 f2 f3 vn vd : Value} {q : Rat} {N D : Int} {k : Nat} (hfn : Zc w (.agg #[f0, f1]) q.num k) (hfd : Zc w (.agg #[f2, f3]) (q.den : Int) k) (hn : Zi w vn N k) (hd : Zi w vd D k) (hk : k ≤ 17179869184) (hq : q.num * D = N * (q.den : Int)) :
    Calls Try.prog 15 #[.agg #[f0, f1, f2, f3], vn, vd] w fun e w' => e = .returned (.bool true) ∧ Below w.heap.size w w' := by
  have HQ := hid hq
  clear hq
  have zfn0 := hfn
  obtain ⟨nfn, xfn, adfn, cfn, ev, -, -, -, -, -⟩ := hfn
  simp only [Value.agg.injEq] at ev
  obtain ⟨rfl, rfl⟩ := pair_eq ev
  have zfd0 := hfd
  obtain ⟨nfd, xfd, adfd, cfd, ev, -, -, -, -, -⟩ := hfd
  simp only [Value.agg.injEq] at ev
  obtain ⟨rfl, rfl⟩ := pair_eq ev
  have zn0 := hn
  obtain ⟨nn, xn, adn, cn, rfl, -, -, -⟩ := hn
  have zd0 := hd
  obtain ⟨nd, xd, add, cd, rfl, -, -, -⟩ := hd
  obtain ⟨W0, hW⟩ : ∃ W0, ((w.alloc (.cells #[(.bool nfn), (.slice adfn xfn.length cfn), (.bool nfd), (.slice adfd xfd.length cfd)] 26)).alloc (duo (.bool nn) (.slice adn xn.length cn))).alloc (duo (.bool nd) (.slice add xd.length cd)) = W0 := ⟨_, rfl⟩
  obtain ⟨b0, sz0⟩ := alloc3 w (.cells #[(.bool nfn), (.slice adfn xfn.length cfn), (.bool nfd), (.slice adfd xfd.length cfd)] 26) (duo (.bool nn) (.slice adn xn.length cn)) (duo (.bool nd) (.slice add xd.length cd))
  rw [hW] at b0 sz0
  have Pf : Hid (Cel W0 (w.heap.size) 26 [(.bool nfn), (.slice adfn xfn.length cfn), (.bool nfd), (.slice adfd xfd.length cfd)]) := by unfold Hid; rw [← hW]; exact cel_late (cel_late (cel_at (by simp)) _) _
  have Pn : Hid (Duo W0 (w.heap.size + 1) (.bool nn) (.slice adn xn.length cn)) := by unfold Hid; rw [← hW]; exact duo_late (duo_at (by simp)) _
  have Pd : Hid (Duo W0 (w.heap.size + 1 + 1) (.bool nd) (.slice add xd.length cd)) := by unfold Hid; rw [← hW]; exact duo_at (by simp)
  have Zfn := hid (zfn0.now b0)
  clear zfn0
  have Zfd := hid (zfd0.now b0)
  clear zfd0
  have Zn := hid (zn0.now b0)
  clear zn0
  have Zd := hid (zd0.now b0)
  clear zd0
  have G := hid b0
  clear b0
  have EW := hid hW
  clear hW
  go_enter Try.func15, Try.ntmps15
  skip
  go_wp2_with fail
  rw [EW.out]
  clear EW
  refine wp_region_tail (fun w' => w'.cell? ⟨w.heap.size, 0, none⟩ = some (.bool nfn) ∧ w'.cell? ⟨w.heap.size, 1, none⟩ = some (.slice adfn xfn.length cfn) ∧ w'.cell? ⟨w.heap.size, 2, none⟩ = some (.bool nfd) ∧ w'.cell? ⟨w.heap.size, 3, none⟩ = some (.slice adfd xfd.length cfd) ∧ w'.cell? ⟨w.heap.size + 1 + 1, 0, none⟩ = some (.bool nd) ∧ w'.cell? ⟨w.heap.size + 1 + 1, 1, none⟩ = some (.slice add xd.length cd) ∧ w'.cell? ⟨w.heap.size + 1, 0, none⟩ = some (.bool nn) ∧ w'.cell? ⟨w.heap.size + 1, 1, none⟩ = some (.slice adn xn.length cn)) 13 (by kernel_rfl) ?_
  obtain ⟨D1, hD⟩ : ∃ D1, W0.drew = D1 := ⟨_, rfl⟩
  have b : Below W0.heap.size W0 D1 := by rw [← hD]; exact (Below.refl _ _).drew
  rw [hD]
  clear hD
  replace Zfn := hid (Zfn.out.now b)
  replace Zfd := hid (Zfd.out.now b)
  replace Zn := hid (Zn.out.now b)
  replace Zd := hid (Zd.out.now b)
  replace Pf := hid (Pf.out.step b)
  replace Pn := hid (Pn.out.step b)
  replace Pd := hid (Pd.out.step b)
  replace G := hid (below_step G.out b)
  have lz2 := (show Below _ _ _ from b).size
  clear b
  refine wpAnyT_take (i := 0) (oi := { dst := some 7, op := Op.load 26 (Operand.tmp 3), type := 26, pos := "outright.go:23", after := #[], guard := none }) (v := (.agg #[(.bool nfn), (.slice adfn xfn.length cfn), (.bool nfd), (.slice adfd xfd.length cfd)])) rfl (by kernel_rfl) (fun _ _ _ h => h) (Or.inl ⟨by rfl, ?_⟩) ⟨(Pf.out.at (i := 0) rfl), (Pf.out.at (i := 1) rfl), (Pf.out.at (i := 2) rfl), (Pf.out.at (i := 3) rfl), Pd.out.c0, Pd.out.c1, Pn.out.c0, Pn.out.c1⟩ ?_
  · intro w hSw
    (try dsimp only at hSw)
    go_simp
  simp only [Act.put, List.setIfInBounds_toArray, List.set_cons_zero, List.set_cons_succ]
  refine wpAnyT_one (i := 1) (o := { dst := some 8, op := Op.call { callee := Callee.value (Operand.func 30), args := #[Operand.tmp 7], argTypes := #[26] }, type := 4, pos := "outright.go:23", after := #[{ on := 0, ground := Ground.data }], guard := none }) (by kernel_rfl) rfl (fun K hK => ?_)
  go_simp
  go_at_call 30
  refine (lowest8 Zfn.out Zfd.out (by omega)).mono ?_
  rintro e w3 ⟨rfl, b⟩
  replace Zfn := hid (Zfn.out.now b)
  replace Zfd := hid (Zfd.out.now b)
  replace Zn := hid (Zn.out.now b)
  replace Zd := hid (Zd.out.now b)
  replace Pf := hid (Pf.out.step b)
  replace Pn := hid (Pn.out.step b)
  replace Pd := hid (Pd.out.step b)
  replace G := hid (below_step G.out b)
  have lz4 := (show Below _ _ _ from b).size
  clear b 
  refine hK.out _ _ (fun _ => ⟨(Pf.out.at (i := 0) rfl), (Pf.out.at (i := 1) rfl), (Pf.out.at (i := 2) rfl), (Pf.out.at (i := 3) rfl), Pd.out.c0, Pd.out.c1, Pn.out.c0, Pn.out.c1⟩) ?_
  clear hK
  refine wpAnyT_take (i := 2) (oi := { dst := some 9, op := Op.move (Operand.tmp 8), type := 4, pos := "outright.go:23", after := #[{ on := 1, ground := Ground.data }, { on := 1, ground := Ground.chain }], guard := none }) (v := (.bool true)) rfl (by kernel_rfl) (fun _ _ _ h => h) (Or.inl ⟨by rfl, ?_⟩) ⟨(Pf.out.at (i := 0) rfl), (Pf.out.at (i := 1) rfl), (Pf.out.at (i := 2) rfl), (Pf.out.at (i := 3) rfl), Pd.out.c0, Pd.out.c1, Pn.out.c0, Pn.out.c1⟩ ?_
  · intro w hSw
    (try dsimp only at hSw)
    go_simp
  simp only [Act.put, List.setIfInBounds_toArray, List.set_cons_zero, List.set_cons_succ]
  refine wpAnyT_take (i := 3) (oi := { dst := some 10, op := Op.fieldAddr 26 (Operand.tmp 3) 0, type := 0, pos := "outright.go:23", after := #[{ on := 2, ground := Ground.guard }], guard := some (2, true) }) (v := (.pointer (some ⟨w.heap.size, 0, none⟩))) rfl (by kernel_rfl) (fun _ _ _ h => h) (Or.inl ⟨by rfl, ?_⟩) ⟨(Pf.out.at (i := 0) rfl), (Pf.out.at (i := 1) rfl), (Pf.out.at (i := 2) rfl), (Pf.out.at (i := 3) rfl), Pd.out.c0, Pd.out.c1, Pn.out.c0, Pn.out.c1⟩ ?_
  · intro w hSw
    (try dsimp only at hSw)
    go_simp
  simp only [Act.put, List.setIfInBounds_toArray, List.set_cons_zero, List.set_cons_succ]
  refine wpAnyT_take (i := 4) (oi := { dst := some 11, op := Op.load 24 (Operand.tmp 10), type := 24, pos := "outright.go:23", after := #[{ on := 3, ground := Ground.data }, { on := 2, ground := Ground.guard }], guard := some (2, true) }) (v := (.agg #[(.bool nfn), (.slice adfn xfn.length cfn)])) rfl (by kernel_rfl) (fun _ _ _ h => h) (Or.inl ⟨by rfl, ?_⟩) ⟨(Pf.out.at (i := 0) rfl), (Pf.out.at (i := 1) rfl), (Pf.out.at (i := 2) rfl), (Pf.out.at (i := 3) rfl), Pd.out.c0, Pd.out.c1, Pn.out.c0, Pn.out.c1⟩ ?_
  · intro w hSw
    (try dsimp only at hSw)
    go_simp
  simp only [Act.put, List.setIfInBounds_toArray, List.set_cons_zero, List.set_cons_succ]
  refine wpAnyT_take (i := 5) (oi := { dst := some 12, op := Op.load 24 (Operand.tmp 5), type := 24, pos := "outright.go:23", after := #[{ on := 2, ground := Ground.guard }], guard := some (2, true) }) (v := (.agg #[(.bool nd), (.slice add xd.length cd)])) rfl (by kernel_rfl) (fun _ _ _ h => h) (Or.inl ⟨by rfl, ?_⟩) ⟨(Pf.out.at (i := 0) rfl), (Pf.out.at (i := 1) rfl), (Pf.out.at (i := 2) rfl), (Pf.out.at (i := 3) rfl), Pd.out.c0, Pd.out.c1, Pn.out.c0, Pn.out.c1⟩ ?_
  · intro w hSw
    (try dsimp only at hSw)
    go_simp
  simp only [Act.put, List.setIfInBounds_toArray, List.set_cons_zero, List.set_cons_succ]
  refine wpAnyT_take (i := 7) (oi := { dst := some 14, op := Op.load 24 (Operand.tmp 4), type := 24, pos := "outright.go:23", after := #[{ on := 2, ground := Ground.guard }], guard := some (2, true) }) (v := (.agg #[(.bool nn), (.slice adn xn.length cn)])) rfl (by kernel_rfl) (fun _ _ _ h => h) (Or.inl ⟨by rfl, ?_⟩) ⟨(Pf.out.at (i := 0) rfl), (Pf.out.at (i := 1) rfl), (Pf.out.at (i := 2) rfl), (Pf.out.at (i := 3) rfl), Pd.out.c0, Pd.out.c1, Pn.out.c0, Pn.out.c1⟩ ?_
  · intro w hSw
    (try dsimp only at hSw)
    go_simp
  simp only [Act.put, List.setIfInBounds_toArray, List.set_cons_zero, List.set_cons_succ]
  refine wpAnyT_take (i := 8) (oi := { dst := some 15, op := Op.fieldAddr 26 (Operand.tmp 3) 1, type := 0, pos := "outright.go:23", after := #[{ on := 2, ground := Ground.guard }], guard := some (2, true) }) (v := (.pointer (some ⟨w.heap.size, 2, none⟩))) rfl (by kernel_rfl) (fun _ _ _ h => h) (Or.inl ⟨by rfl, ?_⟩) ⟨(Pf.out.at (i := 0) rfl), (Pf.out.at (i := 1) rfl), (Pf.out.at (i := 2) rfl), (Pf.out.at (i := 3) rfl), Pd.out.c0, Pd.out.c1, Pn.out.c0, Pn.out.c1⟩ ?_
  · intro w hSw
    (try dsimp only at hSw)
    go_simp
  simp only [Act.put, List.setIfInBounds_toArray, List.set_cons_zero, List.set_cons_succ]
  refine wpAnyT_take (i := 9) (oi := { dst := some 16, op := Op.load 24 (Operand.tmp 15), type := 24, pos := "outright.go:23", after := #[{ on := 8, ground := Ground.data }, { on := 2, ground := Ground.guard }], guard := some (2, true) }) (v := (.agg #[(.bool nfd), (.slice adfd xfd.length cfd)])) rfl (by kernel_rfl) (fun _ _ _ h => h) (Or.inl ⟨by rfl, ?_⟩) ⟨(Pf.out.at (i := 0) rfl), (Pf.out.at (i := 1) rfl), (Pf.out.at (i := 2) rfl), (Pf.out.at (i := 3) rfl), Pd.out.c0, Pd.out.c1, Pn.out.c0, Pn.out.c1⟩ ?_
  · intro w hSw
    (try dsimp only at hSw)
    go_simp
  simp only [Act.put, List.setIfInBounds_toArray, List.set_cons_zero, List.set_cons_succ]
  refine wpAnyT_one (i := 6) (o := { dst := some 13, op := Op.call { callee := Callee.value (Operand.func 16), args := #[Operand.tmp 11, Operand.tmp 12], argTypes := #[24, 24] }, type := 24, pos := "outright.go:23", after := #[{ on := 4, ground := Ground.data }, { on := 5, ground := Ground.data }, { on := 2, ground := Ground.chain }, { on := 2, ground := Ground.guard }], guard := some (2, true) }) (by kernel_rfl) rfl (fun K hK => ?_)
  go_simp
  go_at_call 16
  refine (mul_z Zfn.out.zi Zd.out (by omega)).mono ?_
  rintro e w5 ⟨r0, rfl, m0, b⟩
  obtain ⟨np, xp, adp, qp, rfl, -, -, -, -, -⟩ := id m0
  replace Zfn := hid (Zfn.out.now b)
  replace Zfd := hid (Zfd.out.now b)
  replace Zn := hid (Zn.out.now b)
  replace Zd := hid (Zd.out.now b)
  replace Pf := hid (Pf.out.step b)
  replace Pn := hid (Pn.out.step b)
  replace Pd := hid (Pd.out.step b)
  replace G := hid (below_step G.out b)
  have lz6 := (show Below _ _ _ from b).size
  have Zp := hid m0
  clear b m0
  refine hK.out _ _ (fun _ => ⟨(Pf.out.at (i := 0) rfl), (Pf.out.at (i := 1) rfl), (Pf.out.at (i := 2) rfl), (Pf.out.at (i := 3) rfl), Pd.out.c0, Pd.out.c1, Pn.out.c0, Pn.out.c1⟩) ?_
  clear hK
  refine wpAnyT_one (i := 10) (o := { dst := some 17, op := Op.call { callee := Callee.value (Operand.func 16), args := #[Operand.tmp 14, Operand.tmp 16], argTypes := #[24, 24] }, type := 24, pos := "outright.go:23", after := #[{ on := 7, ground := Ground.data }, { on := 9, ground := Ground.data }, { on := 6, ground := Ground.chain }, { on := 2, ground := Ground.guard }], guard := some (2, true) }) (by kernel_rfl) rfl (fun K hK => ?_)
  go_simp
  go_at_call 16
  refine (mul_z Zn.out Zfd.out.zi (by omega)).mono ?_
  rintro e w7 ⟨r0, rfl, m0, b⟩
  obtain ⟨nr, xr, adr, qr, rfl, -, -, -, -, -⟩ := id m0
  replace Zfn := hid (Zfn.out.now b)
  replace Zfd := hid (Zfd.out.now b)
  replace Zn := hid (Zn.out.now b)
  replace Zd := hid (Zd.out.now b)
  replace Zp := hid (Zp.out.now b)
  replace Pf := hid (Pf.out.step b)
  replace Pn := hid (Pn.out.step b)
  replace Pd := hid (Pd.out.step b)
  replace G := hid (below_step G.out b)
  have lz8 := (show Below _ _ _ from b).size
  have Zr := hid m0
  clear b m0
  refine hK.out _ _ (fun _ => ⟨(Pf.out.at (i := 0) rfl), (Pf.out.at (i := 1) rfl), (Pf.out.at (i := 2) rfl), (Pf.out.at (i := 3) rfl), Pd.out.c0, Pd.out.c1, Pn.out.c0, Pn.out.c1⟩) ?_
  clear hK
  refine wpAnyT_one (i := 11) (o := { dst := some 18, op := Op.call { callee := Callee.value (Operand.func 27), args := #[Operand.tmp 13, Operand.tmp 17], argTypes := #[24, 24] }, type := 4, pos := "outright.go:23", after := #[{ on := 6, ground := Ground.data }, { on := 10, ground := Ground.data }, { on := 10, ground := Ground.chain }, { on := 2, ground := Ground.guard }], guard := some (2, true) }) (by kernel_rfl) rfl (fun K hK => ?_)
  go_simp
  go_at_call 27
  refine (alike8_yes Zp.out.zc Zr.out.zc HQ.out).mono ?_
  rintro e w9 ⟨rfl, b⟩
  replace Zfn := hid (Zfn.out.now b)
  replace Zfd := hid (Zfd.out.now b)
  replace Zn := hid (Zn.out.now b)
  replace Zd := hid (Zd.out.now b)
  replace Zp := hid (Zp.out.now b)
  replace Zr := hid (Zr.out.now b)
  replace Pf := hid (Pf.out.step b)
  replace Pn := hid (Pn.out.step b)
  replace Pd := hid (Pd.out.step b)
  replace G := hid (below_step G.out b)
  have lz10 := (show Below _ _ _ from b).size
  clear b 
  refine hK.out _ _ (fun _ => ⟨(Pf.out.at (i := 0) rfl), (Pf.out.at (i := 1) rfl), (Pf.out.at (i := 2) rfl), (Pf.out.at (i := 3) rfl), Pd.out.c0, Pd.out.c1, Pn.out.c0, Pn.out.c1⟩) ?_
  clear hK
  refine wpAnyT_take (i := 12) (oi := { dst := some 19, op := Op.pick (Operand.tmp 9) (Operand.tmp 18) (Operand.const (Value.bool false)), type := 4, pos := "outright.go:23", after := #[{ on := 2, ground := Ground.data }, { on := 11, ground := Ground.data }], guard := none }) (v := (.bool true)) rfl (by kernel_rfl) (fun _ _ _ h => h) (Or.inl ⟨by rfl, ?_⟩) ⟨(Pf.out.at (i := 0) rfl), (Pf.out.at (i := 1) rfl), (Pf.out.at (i := 2) rfl), (Pf.out.at (i := 3) rfl), Pd.out.c0, Pd.out.c1, Pn.out.c0, Pn.out.c1⟩ ?_
  · intro w hSw
    (try dsimp only at hSw)
    go_simp
  simp only [Act.put, List.setIfInBounds_toArray, List.set_cons_zero, List.set_cons_succ]
  refine wpAnyT_one (i := 13) (o := { dst := some 6, op := Op.assign (Operand.tmp 19), type := 4, pos := "outright.go:23", after := #[{ on := 12, ground := Ground.data }, { on := 11, ground := Ground.chain }, { on := 0, ground := Ground.phase }, { on := 1, ground := Ground.phase }, { on := 2, ground := Ground.phase }, { on := 3, ground := Ground.phase }, { on := 4, ground := Ground.phase }, { on := 5, ground := Ground.phase }, { on := 6, ground := Ground.phase }, { on := 7, ground := Ground.phase }, { on := 8, ground := Ground.phase }, { on := 9, ground := Ground.phase }, { on := 10, ground := Ground.phase }, { on := 11, ground := Ground.phase }, { on := 12, ground := Ground.phase }], guard := none }) (by kernel_rfl) rfl (fun K hK => ?_)
  go_simp
  refine hK.out _ _ (fun h => absurd h (by decide)) ?_
  clear hK
  try simp only [Act.put]
  refine wpAnyT_done (by kernel_rfl) ?_ _
  go_wp2
  go_ret
  exact ⟨rfl, G.out⟩

end Go.Proofs.Ytaoammmnpfbdfaa
