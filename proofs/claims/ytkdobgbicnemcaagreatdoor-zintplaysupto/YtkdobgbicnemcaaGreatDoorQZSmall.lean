import Derived.Test.YtkdobgbicnemcaaGreatDoorQExact0ToZDiv
set_option maxRecDepth 100000
set_option maxHeartbeats 6400000
set_option linter.unusedVariables false
set_option linter.unusedSimpArgs false
namespace Go.Proofs.YtkdobgbicnemcaaGreatDoor
open Go.RowKit
def zlB (w : World) (v E : Int) (e : Ending) (w' : World) : Prop := e = .returned (.tuple #[.int .i64 v,.int .i64 E]) ∧ Below w.heap.size w w'
theorem zgH {xs : List Int} (hx : WF xs) (h : val xs < 18446744073709551616) (hne : xs ≠ []) : ∃ hl : 0 < xs.length,xs[0] = val xs := by
 match xs,hne with
 | x :: r,_ =>
  refine ⟨by simp,?_⟩;have h1 := hx.head;have h2 := zEA hx.tail;unfold IsW wB at h1;simp only [val,wB] at h ⊢;simp only [List.getElem_cons_zero];have : val r = 0 := by omega
  rw [this];omega
theorem zTB (z y : Int) : (cmpI z y < 0 ↔ z < y) ∧ (0 < cmpI z y ↔ y < z) := by
 unfold cmpI
 constructor <;> (repeat' split) <;> constructor <;> omega
theorem small_low {w : World} {v : Value} {z : Int} {k : Nat} (h : Zi w v z k) (hz : z < -9223372036854775808) :
  Calls Tryz.prog 40 #[v] w (zlB w 0 5) := by
 have hv := h;obtain ⟨n,xs,a,c,rfl,s0,z0,k0⟩ := h;obtain ⟨W0,hW0⟩ : ∃ W0,w.alloc (duo (.bool n) (.slice a xs.length c)) = W0 := ⟨_,rfl⟩
 have b0 : Below w.heap.size w W0 := by rw [← hW0];exact (Below.refl _ _).alloc (Nat.le_refl _) _
 have sz0 : W0.heap.size = w.heap.size + 1 := by rw [← hW0];simp
 have p0 : Duo W0 w.heap.size (.bool n) (.slice a xs.length c) := by rw [← hW0];exact Duo.new w _ _
 have HKB : Hid (∀ w',Below W0.heap.size W0 w' → w'.cell? ⟨w.heap.size,0,none⟩ = some (.bool n) ∧ w'.cell? ⟨w.heap.size,1,none⟩ = some (.slice a xs.length c)) := fun w' h => ⟨(p0.below h (by omega)).c0,(p0.below h (by omega)).c1⟩
 obtain ⟨i0,i1⟩ := HKB.out W0 (Below.refl _ _);have HV := hid (hv.now b0);have HC1 : Hid (∀ (w' : World) (v' u' : Value) (k' l' : Nat),Zi w' v' z k' → Zi w' u' (-9223372036854775808) l' → _) := fun w' v' u' k' l' h h' => zyE h h'
 have HC2 : Hid (∀ (w' : World) (v' u' : Value) (k' l' : Nat),Zi w' v' z k' → Zi w' u' 9223372036854775807 l' → _) := fun w' v' u' k' l' h h' => zyE h h'
 have hc1 := (zTB z (-9223372036854775808)).1;have hc2 := (zTB z 9223372036854775807).2;generalize cmpI z (-9223372036854775808) = C1 at *;generalize cmpI z 9223372036854775807 = C2 at *;have g1 : C1 < 0 := hc1.2 hz;have d1 : decide (C1 < 0) = true := decide_eq_true g1;have EW := hid hW0;have B0 := hid b0;clear hv p0 hW0 b0 hc1 hc2 s0 z0;go_enter Tryz.func40,Tryz.ntmps40;go_wp2_with fail;rw [EW.out];go_region_with (first
  | (have _ := HP1;go_at_call 42;refine (HC1.out _ _ _ _ _ (V1.out.now ?_) (M1.out.zi.now ?_)).mono ?_;(repeat (first | exact Below.refl _ _ | apply Below.drew));(repeat (first | exact Below.refl _ _ | apply Below.drew));rintro e2 w2 ⟨rfl,b2⟩;have HB2 : Hid (Below w1.heap.size w1 w2) := below_step (w0 := w1) (by repeat (first | exact Below.refl _ _ | apply Below.drew)) b2;have HP2 := hid (below_step HP1.out HB2.out);obtain ⟨c20,c21⟩ := HKB.out w2 HP2.out)
  | (go_at_call 39;refine (of_z (n := -9223372036854775808) (by decide) (by decide) _).mono ?_;rintro e1 w1 ⟨r1,rfl,m1,b1⟩;have HP1 : Hid (Below W0.heap.size W0 w1) := below_step (w0 := W0) (by repeat (first | exact Below.refl _ _ | apply Below.drew)) b1;have M1 := hid m1;obtain ⟨n1,t1,a1,q1,rfl,-,-,-,-,-⟩ := m1;have V1 := hid (HV.out.now HP1.out);obtain ⟨c10,c11⟩ := HKB.out w1 HP1.out))
 all_goals (try go_wp2)
 all_goals go_ret2
 all_goals exact ⟨rfl,below_step B0.out HP2.out⟩
theorem small_high {w : World} {v : Value} {z : Int} {k : Nat} (h : Zi w v z k) (hz : 9223372036854775807 < z) :
  Calls Tryz.prog 40 #[v] w (zlB w 0 5) := by
 have hv := h;obtain ⟨n,xs,a,c,rfl,s0,z0,k0⟩ := h;obtain ⟨W0,hW0⟩ : ∃ W0,w.alloc (duo (.bool n) (.slice a xs.length c)) = W0 := ⟨_,rfl⟩
 have b0 : Below w.heap.size w W0 := by rw [← hW0];exact (Below.refl _ _).alloc (Nat.le_refl _) _
 have sz0 : W0.heap.size = w.heap.size + 1 := by rw [← hW0];simp
 have p0 : Duo W0 w.heap.size (.bool n) (.slice a xs.length c) := by rw [← hW0];exact Duo.new w _ _
 have HKB : Hid (∀ w',Below W0.heap.size W0 w' → w'.cell? ⟨w.heap.size,0,none⟩ = some (.bool n) ∧ w'.cell? ⟨w.heap.size,1,none⟩ = some (.slice a xs.length c)) := fun w' h => ⟨(p0.below h (by omega)).c0,(p0.below h (by omega)).c1⟩
 obtain ⟨i0,i1⟩ := HKB.out W0 (Below.refl _ _);have HV := hid (hv.now b0);have HC1 : Hid (∀ (w' : World) (v' u' : Value) (k' l' : Nat),Zi w' v' z k' → Zi w' u' (-9223372036854775808) l' → _) := fun w' v' u' k' l' h h' => zyE h h'
 have HC2 : Hid (∀ (w' : World) (v' u' : Value) (k' l' : Nat),Zi w' v' z k' → Zi w' u' 9223372036854775807 l' → _) := fun w' v' u' k' l' h h' => zyE h h'
 have hc1 := (zTB z (-9223372036854775808)).1;have hc2 := (zTB z 9223372036854775807).2;generalize cmpI z (-9223372036854775808) = C1 at *;generalize cmpI z 9223372036854775807 = C2 at *;have g1 : ¬ C1 < 0 := fun h => by have := hc1.1 h;omega
 have g2 : 0 < C2 := hc2.2 hz;have d1 : decide (C1 < 0) = false := decide_eq_false g1;have d2 : decide (0 < C2) = true := decide_eq_true g2;have EW := hid hW0;have B0 := hid b0;clear hv p0 hW0 b0 hc1 hc2 s0 z0;go_enter Tryz.func40,Tryz.ntmps40;go_wp2_with fail;rw [EW.out];go_region_held3 (fun w' => w'.cell? ⟨w.heap.size,0,none⟩ = some (.bool n) ∧ w'.cell? ⟨w.heap.size,1,none⟩ = some (.slice a xs.length c))
  (first
   | ((try dsimp only);refine ⟨?_,?_⟩ <;> with_reducible assumption)
   | (refine HKB.out _ ?_;repeat (first | with_reducible exact HP4.out | with_reducible exact HP3.out | with_reducible exact HP2.out | with_reducible exact HP1.out | with_reducible exact Below.refl _ _ | with_reducible apply Below.drew)))
  (first
   | (have _ := HP3;go_at_call 42;refine (HC2.out _ _ _ _ _ (V3.out.now ?_) (M3.out.zi.now ?_)).mono ?_;(repeat (first | exact Below.refl _ _ | apply Below.drew));(repeat (first | exact Below.refl _ _ | apply Below.drew));rintro e4 w4 ⟨rfl,b4⟩;have HB4 : Hid (Below w3.heap.size w3 w4) := below_step (w0 := w3) (by repeat (first | exact Below.refl _ _ | apply Below.drew)) b4;have HP4 := hid (below_step HP3.out HB4.out);obtain ⟨c40,c41⟩ := HKB.out w4 HP4.out)
   | (have _ := HP2;go_at_call 39;refine (of_z (n := 9223372036854775807) (by decide) (by decide) _).mono ?_;rintro e3 w3 ⟨r3,rfl,m3,b3⟩;have HB3 : Hid (Below w2.heap.size w2 w3) := below_step (w0 := w2) (by repeat (first | exact Below.refl _ _ | apply Below.drew)) b3;have HP3 := hid (below_step HP2.out HB3.out);have M3 := hid m3;obtain ⟨n3,t3,a3,q3,rfl,-,-,-,-,-⟩ := m3;have V3 := hid (V2.out.now HB3.out);obtain ⟨c30,c31⟩ := HKB.out w3 HP3.out)
   | (have _ := HP1;go_at_call 42;refine (HC1.out _ _ _ _ _ (V1.out.now ?_) (M1.out.zi.now ?_)).mono ?_;(repeat (first | exact Below.refl _ _ | apply Below.drew));(repeat (first | exact Below.refl _ _ | apply Below.drew));rintro e2 w2 ⟨rfl,b2⟩;have HB2 : Hid (Below w1.heap.size w1 w2) := below_step (w0 := w1) (by repeat (first | exact Below.refl _ _ | apply Below.drew)) b2;have HP2 := hid (below_step HP1.out HB2.out);have V2 := hid (V1.out.now HB2.out);obtain ⟨c20,c21⟩ := HKB.out w2 HP2.out)
   | (go_at_call 39;refine (of_z (n := -9223372036854775808) (by decide) (by decide) _).mono ?_;rintro e1 w1 ⟨r1,rfl,m1,b1⟩;have HP1 : Hid (Below W0.heap.size W0 w1) := below_step (w0 := W0) (by repeat (first | exact Below.refl _ _ | apply Below.drew)) b1;have M1 := hid m1;obtain ⟨n1,t1,a1,q1,rfl,-,-,-,-,-⟩ := m1;have V1 := hid (HV.out.now HP1.out);obtain ⟨c10,c11⟩ := HKB.out w1 HP1.out))
 go_wp2;go_ret2;exact ⟨rfl,below_step B0.out HP4.out⟩
theorem small_none {w : World} {v : Value} {z : Int} {k : Nat} (h : Zi w v z k) (hx : -9223372036854775808 ≤ z) (hy : z ≤ 9223372036854775807) (hl : z = 0 ∧ ∀ n xs a c,v = .agg #[.bool n,.slice a xs c] → xs = 0) :
  Calls Tryz.prog 40 #[v] w (zlB w z 0) := by
 have hv := h;obtain ⟨n,xs,a,c,rfl,s0,z0,k0⟩ := h;obtain ⟨W0,hW0⟩ : ∃ W0,w.alloc (duo (.bool n) (.slice a xs.length c)) = W0 := ⟨_,rfl⟩
 have b0 : Below w.heap.size w W0 := by rw [← hW0];exact (Below.refl _ _).alloc (Nat.le_refl _) _
 have sz0 : W0.heap.size = w.heap.size + 1 := by rw [← hW0];simp
 have p0 : Duo W0 w.heap.size (.bool n) (.slice a xs.length c) := by rw [← hW0];exact Duo.new w _ _
 have HKB : Hid (∀ w',Below W0.heap.size W0 w' → w'.cell? ⟨w.heap.size,0,none⟩ = some (.bool n) ∧ w'.cell? ⟨w.heap.size,1,none⟩ = some (.slice a xs.length c)) := fun w' h => ⟨(p0.below h (by omega)).c0,(p0.below h (by omega)).c1⟩
 obtain ⟨i0,i1⟩ := HKB.out W0 (Below.refl _ _);have HV := hid (hv.now b0);have HC1 : Hid (∀ (w' : World) (v' u' : Value) (k' l' : Nat),Zi w' v' z k' → Zi w' u' (-9223372036854775808) l' → _) := fun w' v' u' k' l' h h' => zyE h h'
 have HC2 : Hid (∀ (w' : World) (v' u' : Value) (k' l' : Nat),Zi w' v' z k' → Zi w' u' 9223372036854775807 l' → _) := fun w' v' u' k' l' h h' => zyE h h'
 have hc1 := (zTB z (-9223372036854775808)).1;have hc2 := (zTB z 9223372036854775807).2;generalize cmpI z (-9223372036854775808) = C1 at *;generalize cmpI z 9223372036854775807 = C2 at *;have g1 : ¬ C1 < 0 := fun h => by have := hc1.1 h;omega
 have g2 : ¬ 0 < C2 := fun h => by have := hc2.1 h;omega
 have d1 : decide (C1 < 0) = false := decide_eq_false g1;have d2 : decide (0 < C2) = false := decide_eq_false g2;obtain ⟨rfl,hl2⟩ := hl;have e0 : xs.length = 0 := hl2 _ _ _ _ rfl;have q0 : ((0 : Int) == 0) = true := rfl;rw [e0] at HKB i1 HV hW0 ⊢;have EW := hid hW0;have B0 := hid b0;clear hv p0 hW0 b0 hc1 hc2 s0 z0 hl2;go_enter Tryz.func40,Tryz.ntmps40;go_wp2_with fail;rw [EW.out];go_region_held3 (fun w' => w'.cell? ⟨w.heap.size,0,none⟩ = some (.bool n) ∧ w'.cell? ⟨w.heap.size,1,none⟩ = some (.slice a 0 c))
  (first
   | ((try dsimp only);refine ⟨?_,?_⟩ <;> with_reducible assumption)
   | (refine HKB.out _ ?_;repeat (first | with_reducible exact HP4.out | with_reducible exact HP3.out | with_reducible exact HP2.out | with_reducible exact HP1.out | with_reducible exact Below.refl _ _ | with_reducible apply Below.drew)))
  (first
   | (have _ := HP3;go_at_call 42;refine (HC2.out _ _ _ _ _ (V3.out.now ?_) (M3.out.zi.now ?_)).mono ?_;(repeat (first | exact Below.refl _ _ | apply Below.drew));(repeat (first | exact Below.refl _ _ | apply Below.drew));rintro e4 w4 ⟨rfl,b4⟩;have HB4 : Hid (Below w3.heap.size w3 w4) := below_step (w0 := w3) (by repeat (first | exact Below.refl _ _ | apply Below.drew)) b4;have HP4 := hid (below_step HP3.out HB4.out);obtain ⟨c40,c41⟩ := HKB.out w4 HP4.out)
   | (have _ := HP2;go_at_call 39;refine (of_z (n := 9223372036854775807) (by decide) (by decide) _).mono ?_;rintro e3 w3 ⟨r3,rfl,m3,b3⟩;have HB3 : Hid (Below w2.heap.size w2 w3) := below_step (w0 := w2) (by repeat (first | exact Below.refl _ _ | apply Below.drew)) b3;have HP3 := hid (below_step HP2.out HB3.out);have M3 := hid m3;obtain ⟨n3,t3,a3,q3,rfl,-,-,-,-,-⟩ := m3;have V3 := hid (V2.out.now HB3.out);obtain ⟨c30,c31⟩ := HKB.out w3 HP3.out)
   | (have _ := HP1;go_at_call 42;refine (HC1.out _ _ _ _ _ (V1.out.now ?_) (M1.out.zi.now ?_)).mono ?_;(repeat (first | exact Below.refl _ _ | apply Below.drew));(repeat (first | exact Below.refl _ _ | apply Below.drew));rintro e2 w2 ⟨rfl,b2⟩;have HB2 : Hid (Below w1.heap.size w1 w2) := below_step (w0 := w1) (by repeat (first | exact Below.refl _ _ | apply Below.drew)) b2;have HP2 := hid (below_step HP1.out HB2.out);have V2 := hid (V1.out.now HB2.out);obtain ⟨c20,c21⟩ := HKB.out w2 HP2.out)
   | (go_at_call 39;refine (of_z (n := -9223372036854775808) (by decide) (by decide) _).mono ?_;rintro e1 w1 ⟨r1,rfl,m1,b1⟩;have HP1 : Hid (Below W0.heap.size W0 w1) := below_step (w0 := W0) (by repeat (first | exact Below.refl _ _ | apply Below.drew)) b1;have M1 := hid m1;obtain ⟨n1,t1,a1,q1,rfl,-,-,-,-,-⟩ := m1;have V1 := hid (HV.out.now HP1.out);obtain ⟨c10,c11⟩ := HKB.out w1 HP1.out))
 go_wp2;go_ret2;exact ⟨rfl,below_step B0.out HP4.out⟩
theorem small_pos {w : World} {v : Value} {z : Int} {k : Nat} (h : Zi w v z k) (hx : -9223372036854775808 ≤ z) (hy : z ≤ 9223372036854775807) (hn : ∀ n xs a c,v = .agg #[.bool n,.slice a xs c] → n = false ∧ xs ≠ 0) :
  Calls Tryz.prog 40 #[v] w (zlB w z 0) := by
 have hv := h;obtain ⟨n,xs,a,c,rfl,s0,z0,k0⟩ := h;obtain ⟨W0,hW0⟩ : ∃ W0,w.alloc (duo (.bool n) (.slice a xs.length c)) = W0 := ⟨_,rfl⟩
 have b0 : Below w.heap.size w W0 := by rw [← hW0];exact (Below.refl _ _).alloc (Nat.le_refl _) _
 have sz0 : W0.heap.size = w.heap.size + 1 := by rw [← hW0];simp
 have p0 : Duo W0 w.heap.size (.bool n) (.slice a xs.length c) := by rw [← hW0];exact Duo.new w _ _
 have HKB : Hid (∀ w',Below W0.heap.size W0 w' → w'.cell? ⟨w.heap.size,0,none⟩ = some (.bool n) ∧ w'.cell? ⟨w.heap.size,1,none⟩ = some (.slice a xs.length c)) := fun w' h => ⟨(p0.below h (by omega)).c0,(p0.below h (by omega)).c1⟩
 obtain ⟨i0,i1⟩ := HKB.out W0 (Below.refl _ _);have HV := hid (hv.now b0);have HC1 : Hid (∀ (w' : World) (v' u' : Value) (k' l' : Nat),Zi w' v' z k' → Zi w' u' (-9223372036854775808) l' → _) := fun w' v' u' k' l' h h' => zyE h h'
 have HC2 : Hid (∀ (w' : World) (v' u' : Value) (k' l' : Nat),Zi w' v' z k' → Zi w' u' 9223372036854775807 l' → _) := fun w' v' u' k' l' h h' => zyE h h'
 have hc1 := (zTB z (-9223372036854775808)).1;have hc2 := (zTB z 9223372036854775807).2;generalize cmpI z (-9223372036854775808) = C1 at *;generalize cmpI z 9223372036854775807 = C2 at *;have g1 : ¬ C1 < 0 := fun h => by have := hc1.1 h;omega
 have g2 : ¬ 0 < C2 := fun h => by have := hc2.1 h;omega
 have d1 : decide (C1 < 0) = false := decide_eq_false g1;have d2 : decide (0 < C2) = false := decide_eq_false g2;obtain ⟨rfl,hl⟩ := hn _ _ _ _ rfl;have hne : xs ≠ [] := fun e => hl (by rw [e];rfl)
 have hv0 := zEA s0.1;have hzz := z0;rw [zdB] at hzz;obtain ⟨hl0,hv1⟩ := zgH s0.1 (by omega) hne;have s0' := s0.now b0;obtain ⟨_,a',c',he,hlc,hlm,hnil | ⟨b,off,hab,hbl,hcell⟩⟩ := s0'
 ·exact absurd hnil hne
 simp only [Value.slice.injEq,true_and] at he;obtain ⟨rfl,rfl⟩ := he;subst hab;have HX : Hid (∀ w',Below W0.heap.size W0 w' → w'.cell? ⟨b,off,none⟩ = some (.int .u64 (val xs))) := fun w' h => (h.cell (p := ⟨b,off,none⟩) hbl).trans (by rw [← hv1];exact hcell 0 hl0)
 obtain ⟨L,hL⟩ : ∃ L,xs.length = L + 1 := ⟨xs.length - 1,by omega⟩
 rw [hL] at HKB i1 HV hW0 hlc ⊢;have q0 : (((L + 1 : Nat) : Int) == 0) = false := by rw [beq_eq_false_iff_ne];omega
 have x1 : IntKind.i64.wrap (val xs) = z := by rw [IntKind.wrap_i64];omega
 obtain ⟨X,hX⟩ : ∃ X,val xs = X := ⟨_,rfl⟩
 rw [hX] at HX x1;have EW := hid hW0;have B0 := hid b0;clear hv p0 hW0 b0 hc1 hc2 s0 z0 hn hcell hv0 hzz hv1 hX hl0 hne;go_enter Tryz.func40,Tryz.ntmps40;go_wp2_with fail;rw [EW.out];go_region_held3 (fun w' => w'.cell? ⟨w.heap.size,0,none⟩ = some (.bool false) ∧ w'.cell? ⟨w.heap.size,1,none⟩ = some (.slice (some ⟨b,off,none⟩) (L + 1) c))
  (first
   | ((try dsimp only);refine ⟨?_,?_⟩ <;> with_reducible assumption)
   | (refine HKB.out _ ?_;repeat (first | with_reducible exact HP4.out | with_reducible exact HP3.out | with_reducible exact HP2.out | with_reducible exact HP1.out | with_reducible exact Below.refl _ _ | with_reducible apply Below.drew)))
  (first
   | (have _ := HP3;go_at_call 42;refine (HC2.out _ _ _ _ _ (V3.out.now ?_) (M3.out.zi.now ?_)).mono ?_;(repeat (first | exact Below.refl _ _ | apply Below.drew));(repeat (first | exact Below.refl _ _ | apply Below.drew));rintro e4 w4 ⟨rfl,b4⟩;have HB4 : Hid (Below w3.heap.size w3 w4) := below_step (w0 := w3) (by repeat (first | exact Below.refl _ _ | apply Below.drew)) b4;have HP4 := hid (below_step HP3.out HB4.out);obtain ⟨c40,c41⟩ := HKB.out w4 HP4.out)
   | (have _ := HP2;go_at_call 39;refine (of_z (n := 9223372036854775807) (by decide) (by decide) _).mono ?_;rintro e3 w3 ⟨r3,rfl,m3,b3⟩;have HB3 : Hid (Below w2.heap.size w2 w3) := below_step (w0 := w2) (by repeat (first | exact Below.refl _ _ | apply Below.drew)) b3;have HP3 := hid (below_step HP2.out HB3.out);have M3 := hid m3;obtain ⟨n3,t3,a3,q3,rfl,-,-,-,-,-⟩ := m3;have V3 := hid (V2.out.now HB3.out);obtain ⟨c30,c31⟩ := HKB.out w3 HP3.out)
   | (have _ := HP1;go_at_call 42;refine (HC1.out _ _ _ _ _ (V1.out.now ?_) (M1.out.zi.now ?_)).mono ?_;(repeat (first | exact Below.refl _ _ | apply Below.drew));(repeat (first | exact Below.refl _ _ | apply Below.drew));rintro e2 w2 ⟨rfl,b2⟩;have HB2 : Hid (Below w1.heap.size w1 w2) := below_step (w0 := w1) (by repeat (first | exact Below.refl _ _ | apply Below.drew)) b2;have HP2 := hid (below_step HP1.out HB2.out);have V2 := hid (V1.out.now HB2.out);obtain ⟨c20,c21⟩ := HKB.out w2 HP2.out)
   | (go_at_call 39;refine (of_z (n := -9223372036854775808) (by decide) (by decide) _).mono ?_;rintro e1 w1 ⟨r1,rfl,m1,b1⟩;have HP1 : Hid (Below W0.heap.size W0 w1) := below_step (w0 := W0) (by repeat (first | exact Below.refl _ _ | apply Below.drew)) b1;have M1 := hid m1;obtain ⟨n1,t1,a1,q1,rfl,-,-,-,-,-⟩ := m1;have V1 := hid (HV.out.now HP1.out);obtain ⟨c10,c11⟩ := HKB.out w1 HP1.out))
 have d0 := HX.out w4 HP4.out;go_wp2;go_ret2;exact ⟨by first | rfl | (rw [x1];rfl),below_step B0.out HP4.out⟩
theorem small_neg {w : World} {v : Value} {z : Int} {k : Nat} (h : Zi w v z k) (hx : -9223372036854775808 ≤ z) (hy : z ≤ 9223372036854775807) (hn : ∀ n xs a c,v = .agg #[.bool n,.slice a xs c] → n = true ∧ xs ≠ 0) :
  Calls Tryz.prog 40 #[v] w (zlB w z 0) := by
 have hv := h;obtain ⟨n,xs,a,c,rfl,s0,z0,k0⟩ := h;obtain ⟨W0,hW0⟩ : ∃ W0,w.alloc (duo (.bool n) (.slice a xs.length c)) = W0 := ⟨_,rfl⟩
 have b0 : Below w.heap.size w W0 := by rw [← hW0];exact (Below.refl _ _).alloc (Nat.le_refl _) _
 have sz0 : W0.heap.size = w.heap.size + 1 := by rw [← hW0];simp
 have p0 : Duo W0 w.heap.size (.bool n) (.slice a xs.length c) := by rw [← hW0];exact Duo.new w _ _
 have HKB : Hid (∀ w',Below W0.heap.size W0 w' → w'.cell? ⟨w.heap.size,0,none⟩ = some (.bool n) ∧ w'.cell? ⟨w.heap.size,1,none⟩ = some (.slice a xs.length c)) := fun w' h => ⟨(p0.below h (by omega)).c0,(p0.below h (by omega)).c1⟩
 obtain ⟨i0,i1⟩ := HKB.out W0 (Below.refl _ _);have HV := hid (hv.now b0);have HC1 : Hid (∀ (w' : World) (v' u' : Value) (k' l' : Nat),Zi w' v' z k' → Zi w' u' (-9223372036854775808) l' → _) := fun w' v' u' k' l' h h' => zyE h h'
 have HC2 : Hid (∀ (w' : World) (v' u' : Value) (k' l' : Nat),Zi w' v' z k' → Zi w' u' 9223372036854775807 l' → _) := fun w' v' u' k' l' h h' => zyE h h'
 have hc1 := (zTB z (-9223372036854775808)).1;have hc2 := (zTB z 9223372036854775807).2;generalize cmpI z (-9223372036854775808) = C1 at *;generalize cmpI z 9223372036854775807 = C2 at *;have g1 : ¬ C1 < 0 := fun h => by have := hc1.1 h;omega
 have g2 : ¬ 0 < C2 := fun h => by have := hc2.1 h;omega
 have d1 : decide (C1 < 0) = false := decide_eq_false g1;have d2 : decide (0 < C2) = false := decide_eq_false g2;obtain ⟨rfl,hl⟩ := hn _ _ _ _ rfl;have hne : xs ≠ [] := fun e => hl (by rw [e];rfl)
 have hv0 := zEA s0.1;have hzz := z0;rw [zaC] at hzz;obtain ⟨hl0,hv1⟩ := zgH s0.1 (by omega) hne;have s0' := s0.now b0;obtain ⟨_,a',c',he,hlc,hlm,hnil | ⟨b,off,hab,hbl,hcell⟩⟩ := s0'
 ·exact absurd hnil hne
 simp only [Value.slice.injEq,true_and] at he;obtain ⟨rfl,rfl⟩ := he;subst hab;have HX : Hid (∀ w',Below W0.heap.size W0 w' → w'.cell? ⟨b,off,none⟩ = some (.int .u64 (val xs))) := fun w' h => (h.cell (p := ⟨b,off,none⟩) hbl).trans (by rw [← hv1];exact hcell 0 hl0)
 obtain ⟨L,hL⟩ : ∃ L,xs.length = L + 1 := ⟨xs.length - 1,by omega⟩
 rw [hL] at HKB i1 HV hW0 hlc ⊢;have q0 : (((L + 1 : Nat) : Int) == 0) = false := by rw [beq_eq_false_iff_ne];omega
 have x1 : wrap64 (-(wrap64 (val xs))) = z := by unfold wrap64;omega
 obtain ⟨X,hX⟩ : ∃ X,val xs = X := ⟨_,rfl⟩
 rw [hX] at HX x1;have EW := hid hW0;have B0 := hid b0;clear hv p0 hW0 b0 hc1 hc2 s0 z0 hn hcell hv0 hzz hv1 hX hl0 hne;go_enter Tryz.func40,Tryz.ntmps40;go_wp2_with fail;rw [EW.out];go_region_held3 (fun w' => w'.cell? ⟨w.heap.size,0,none⟩ = some (.bool true) ∧ w'.cell? ⟨w.heap.size,1,none⟩ = some (.slice (some ⟨b,off,none⟩) (L + 1) c))
  (first
   | ((try dsimp only);refine ⟨?_,?_⟩ <;> with_reducible assumption)
   | (refine HKB.out _ ?_;repeat (first | with_reducible exact HP4.out | with_reducible exact HP3.out | with_reducible exact HP2.out | with_reducible exact HP1.out | with_reducible exact Below.refl _ _ | with_reducible apply Below.drew)))
  (first
   | (have _ := HP3;go_at_call 42;refine (HC2.out _ _ _ _ _ (V3.out.now ?_) (M3.out.zi.now ?_)).mono ?_;(repeat (first | exact Below.refl _ _ | apply Below.drew));(repeat (first | exact Below.refl _ _ | apply Below.drew));rintro e4 w4 ⟨rfl,b4⟩;have HB4 : Hid (Below w3.heap.size w3 w4) := below_step (w0 := w3) (by repeat (first | exact Below.refl _ _ | apply Below.drew)) b4;have HP4 := hid (below_step HP3.out HB4.out);obtain ⟨c40,c41⟩ := HKB.out w4 HP4.out)
   | (have _ := HP2;go_at_call 39;refine (of_z (n := 9223372036854775807) (by decide) (by decide) _).mono ?_;rintro e3 w3 ⟨r3,rfl,m3,b3⟩;have HB3 : Hid (Below w2.heap.size w2 w3) := below_step (w0 := w2) (by repeat (first | exact Below.refl _ _ | apply Below.drew)) b3;have HP3 := hid (below_step HP2.out HB3.out);have M3 := hid m3;obtain ⟨n3,t3,a3,q3,rfl,-,-,-,-,-⟩ := m3;have V3 := hid (V2.out.now HB3.out);obtain ⟨c30,c31⟩ := HKB.out w3 HP3.out)
   | (have _ := HP1;go_at_call 42;refine (HC1.out _ _ _ _ _ (V1.out.now ?_) (M1.out.zi.now ?_)).mono ?_;(repeat (first | exact Below.refl _ _ | apply Below.drew));(repeat (first | exact Below.refl _ _ | apply Below.drew));rintro e2 w2 ⟨rfl,b2⟩;have HB2 : Hid (Below w1.heap.size w1 w2) := below_step (w0 := w1) (by repeat (first | exact Below.refl _ _ | apply Below.drew)) b2;have HP2 := hid (below_step HP1.out HB2.out);have V2 := hid (V1.out.now HB2.out);obtain ⟨c20,c21⟩ := HKB.out w2 HP2.out)
   | (go_at_call 39;refine (of_z (n := -9223372036854775808) (by decide) (by decide) _).mono ?_;rintro e1 w1 ⟨r1,rfl,m1,b1⟩;have HP1 : Hid (Below W0.heap.size W0 w1) := below_step (w0 := W0) (by repeat (first | exact Below.refl _ _ | apply Below.drew)) b1;have M1 := hid m1;obtain ⟨n1,t1,a1,q1,rfl,-,-,-,-,-⟩ := m1;have V1 := hid (HV.out.now HP1.out);obtain ⟨c10,c11⟩ := HKB.out w1 HP1.out))
 have d0 := HX.out w4 HP4.out;go_wp2;go_ret2;exact ⟨by first | rfl | (rw [x1];rfl),below_step B0.out HP4.out⟩
theorem small_z {w : World} {v : Value} {z : Int} {k : Nat} (h : Zi w v z k) (hx : -9223372036854775808 ≤ z) (hy : z ≤ 9223372036854775807) : Calls Tryz.prog 40 #[v] w (zlB w z 0) := by
 have h' := h;obtain ⟨n,xs,a,c,rfl,s0,z0,k0⟩ := h
 by_cases e : xs = []
 ·subst e
  refine small_none h' hx hy ⟨by rw [← z0,zBI],fun n' xs' a' c' h => ?_⟩;simp only [Value.agg.injEq,Array.mk.injEq,List.cons.injEq,Value.slice.injEq,and_true] at h;exact h.2.2.1.symm
 ·have hl : xs.length ≠ 0 := fun q => e (List.eq_nil_of_length_eq_zero q)
  cases n
  ·refine small_pos h' hx hy fun n' xs' a' c' h => ?_
   simp only [Value.agg.injEq,Array.mk.injEq,List.cons.injEq,Value.bool.injEq,Value.slice.injEq,and_true] at h;obtain ⟨rfl,rfl,rfl,rfl⟩ := h;exact ⟨rfl,hl⟩
  ·refine small_neg h' hx hy fun n' xs' a' c' h => ?_
   simp only [Value.agg.injEq,Array.mk.injEq,List.cons.injEq,Value.bool.injEq,Value.slice.injEq,and_true] at h;obtain ⟨rfl,rfl,rfl,rfl⟩ := h;exact ⟨rfl,hl⟩
theorem small_large {w : World} {v : Value} {z : Int} {k : Nat} (h : Zi w v z k) (hz : z < -9223372036854775808 ∨ 9223372036854775807 < z) : Calls Tryz.prog 40 #[v] w (zlB w 0 5) := by
 rcases hz with hz | hz
 ·exact small_low h hz
 ·exact small_high h hz
end Go.Proofs.YtkdobgbicnemcaaGreatDoor
