/-
 QZOnesToZCmp: ZOnes, ZCmp, joined.
-/
import Derived.Test.YtkdobgbicnemcaaGreatDoorQMulAllToOnes

set_option maxRecDepth 100000
set_option maxHeartbeats 6400000
set_option linter.unusedVariables false
set_option linter.unusedSimpArgs false
namespace Go.Proofs.YtkdobgbicnemcaaGreatDoor
open Go.RowKit
theorem zAF {w' : World} {b b' i j : Nat} {u x : Value} (hne : b' ≠ b) (h : w'.cell? ⟨b,i,none⟩ = some x) : (w'.setCell ⟨b',j,none⟩ u).cell? ⟨b,i,none⟩ = some x := by
 rw [← h];unfold World.cell?;rw [Below.heap_setCell w' _ u b (fun e => by simp at e;omega)]
theorem Mine.len {B : Nat} {w : World} {a : Option Addr} {l c : Nat} {zs : List Int} (h : Mine B w (.slice a l c) zs) : zs.length ≤ 35184372088832 := by
 obtain ⟨_,⟨_,h2⟩ | ⟨g,r,cap,_,h,_⟩⟩ := h
 ·subst h2;simp
 ·exact h
theorem zYD {w W0 w1 w2 : World} {n : Bool} {zs : List Int} {az : Option Addr} {cz b k : Nat} {z : Int} (m : Mine W0.heap.size w1 (.slice az zs.length cz) zs) (q : zHA zs) (hv : iv n zs = z) (hl : zs.length ≤ k) (h12 : Below w1.heap.size w1 w2) (h02 : Below W0.heap.size W0 w2) (B0 : Below w.heap.size w W0) (hb : w.heap.size ≤ b) (hB : b < W0.heap.size) :
  zOA w z k (.returned (.agg #[.bool (n && decide (0 < zs.length)),.slice az zs.length cz])) ((w2.setCell ⟨b,0,none⟩ (.bool (n && decide (0 < zs.length)))).setCell ⟨b,1,none⟩ (.slice az zs.length cz)) := by
 subst hv;exact zWB (ziF (m.below h12) q hl) (below_step B0 h02) hb hB
theorem zVF {xs ys : List Int} (n : Bool) (h : val xs = val ys) : iv n xs = iv n ys := by unfold iv;rw [h]
theorem zyH {w : World} {v : Value} {z : Int} {k : Nat} (h0 : Zi w v z k) :
  Calls Tryz.prog 38 #[v] w (zOA w (z) (k)) := by
 obtain ⟨n,xs,a,c,rfl,s0,z0,k0⟩ := h0;obtain ⟨W0,hW0⟩ : ∃ W0,(w.alloc (duo (.bool n) (.slice a xs.length c))).alloc zbox = W0 := ⟨_,rfl⟩
 obtain ⟨b0,sz0⟩ := zXA w (duo (.bool n) (.slice a xs.length c)) zbox;rw [hW0] at b0 sz0;have p0 : Duo W0 (w.heap.size) (.bool n) (.slice a xs.length c) := by rw [← hW0];exact zAA (zCA (by simp)) _
 have pR : Duo W0 (w.heap.size + 1) (.bool false) (.slice none 0 0) := by rw [← hW0];exact zCA (by simp)
 have HKB : Hid (∀ w',Below W0.heap.size W0 w' → w'.cell? ⟨w.heap.size,0,none⟩ = some (.bool n) ∧ w'.cell? ⟨w.heap.size,1,none⟩ = some (.slice a xs.length c)) := fun w' h => ⟨(p0.below h (by omega)).c0,(p0.below h (by omega)).c1⟩
 have HKR : Hid (∀ w',Below W0.heap.size W0 w' → Duo w' (w.heap.size + 1) (.bool false) (.slice none 0 0)) := fun w' h => pR.below h (by omega)
 obtain ⟨i0,i1⟩ := HKB.out W0 (Below.refl _ _);have EW := hid hW0;have B0 := hid b0;have HL : Hid (∀ w',Below W0.heap.size W0 w' → Calls Tryz.prog 75 #[.slice a xs.length c] w' (Mk w' (val xs) xs.length)) := fun w' h => zkE ((s0.now b0).now h)
 have HV : Hid (∀ zs,val zs = val xs → iv n zs = z) := fun zs e => by
  rw [zVF n e,z0]
 clear s0 p0 pR hW0 b0 z0;go_enter Tryz.func38,Tryz.ntmps38;go_wp2_with fail;rw [EW.out];go_region_held3 (fun w' => w'.cell? ⟨w.heap.size,0,none⟩ = some (.bool n) ∧ w'.cell? ⟨w.heap.size,1,none⟩ = some (.slice a xs.length c))
  (first
   | ((try dsimp only);refine ⟨?_,?_⟩ <;> with_reducible (repeat (refine zAF (by omega) ?_)) <;> with_reducible assumption)
   | (refine HKB.out _ ?_;repeat (first | with_reducible exact HP2.out | with_reducible exact HP1.out | with_reducible exact Below.refl _ _ | with_reducible apply Below.drew)))
  (first
   | (go_at_call 75;refine (HL.out _ ?_).mono ?_;(repeat (first | exact Below.refl _ _ | apply Below.drew));rintro e w1 ⟨zs,az,cz,rfl,m1,q1,v1,l1,b1⟩;have HP1 := hid (below_step (w0 := W0) (by repeat (first | exact Below.refl _ _ | apply Below.drew)) b1);obtain ⟨c10,c11⟩ := HKB.out w1 HP1.out;have HM := hid m1)
   | (go_at_call 58;refine (zbA _ n zs.length az cz HM.out.len).mono ?_;rintro e w2 ⟨rfl,b2⟩;have HB12 : Hid (Below w1.heap.size w1 w2) := below_step (w0 := w1) (by repeat (first | exact Below.refl _ _ | apply Below.drew)) b2;have HP2 := hid (below_step HP1.out HB12.out);obtain ⟨c20,c21⟩ := HKB.out w2 HP2.out;have r0 := (HKR.out w2 HP2.out).c0;have r1 := (HKR.out w2 HP2.out).c1;have f0 := (HKR.out w2 HP2.out).fz 0;have f1 := (HKR.out w2 HP2.out).fz 1))
 all_goals go_wp2
 all_goals exact bodyPost_ret (zBB Tryz.results38 ((HKR.out w2 HP2.out).set _ _) _ (by rfl)) rfl (zYD (W0 := W0) HM.out q1 (HV.out zs v1) (by omega) HB12.out HP2.out B0.out (by omega) (by omega))
theorem neg_z {w : World} {v : Value} {z : Int} {k : Nat} (h0 : Zi w v z k) :
  Calls Tryz.prog 44 #[v] w (zOA w (-z) (k)) := by
 obtain ⟨n,xs,a,c,rfl,s0,z0,k0⟩ := h0;obtain ⟨W0,hW0⟩ : ∃ W0,(w.alloc (duo (.bool n) (.slice a xs.length c))).alloc zbox = W0 := ⟨_,rfl⟩
 obtain ⟨b0,sz0⟩ := zXA w (duo (.bool n) (.slice a xs.length c)) zbox;rw [hW0] at b0 sz0;have p0 : Duo W0 (w.heap.size) (.bool n) (.slice a xs.length c) := by rw [← hW0];exact zAA (zCA (by simp)) _
 have pR : Duo W0 (w.heap.size + 1) (.bool false) (.slice none 0 0) := by rw [← hW0];exact zCA (by simp)
 have HKB : Hid (∀ w',Below W0.heap.size W0 w' → w'.cell? ⟨w.heap.size,0,none⟩ = some (.bool n) ∧ w'.cell? ⟨w.heap.size,1,none⟩ = some (.slice a xs.length c)) := fun w' h => ⟨(p0.below h (by omega)).c0,(p0.below h (by omega)).c1⟩
 have HKR : Hid (∀ w',Below W0.heap.size W0 w' → Duo w' (w.heap.size + 1) (.bool false) (.slice none 0 0)) := fun w' h => pR.below h (by omega)
 obtain ⟨i0,i1⟩ := HKB.out W0 (Below.refl _ _);have EW := hid hW0;have B0 := hid b0;have HL : Hid (∀ w',Below W0.heap.size W0 w' → Calls Tryz.prog 75 #[.slice a xs.length c] w' (Mk w' (val xs) xs.length)) := fun w' h => zkE ((s0.now b0).now h)
 have HV : Hid (∀ zs,val zs = val xs → iv (!n) zs = -z) := fun zs e => by
  rw [zVF _ e,zLH,z0]
 clear s0 p0 pR hW0 b0 z0;go_enter Tryz.func44,Tryz.ntmps44;go_wp2_with fail;rw [EW.out];go_region_held3 (fun w' => w'.cell? ⟨w.heap.size,0,none⟩ = some (.bool n) ∧ w'.cell? ⟨w.heap.size,1,none⟩ = some (.slice a xs.length c))
  (first
   | ((try dsimp only);refine ⟨?_,?_⟩ <;> with_reducible (repeat (refine zAF (by omega) ?_)) <;> with_reducible assumption)
   | (refine HKB.out _ ?_;repeat (first | with_reducible exact HP2.out | with_reducible exact HP1.out | with_reducible exact Below.refl _ _ | with_reducible apply Below.drew)))
  (first
   | (go_at_call 75;refine (HL.out _ ?_).mono ?_;(repeat (first | exact Below.refl _ _ | apply Below.drew));rintro e w1 ⟨zs,az,cz,rfl,m1,q1,v1,l1,b1⟩;have HP1 := hid (below_step (w0 := W0) (by repeat (first | exact Below.refl _ _ | apply Below.drew)) b1);obtain ⟨c10,c11⟩ := HKB.out w1 HP1.out;have HM := hid m1)
   | (go_at_call 58;refine (zbA _ (!n) zs.length az cz HM.out.len).mono ?_;rintro e w2 ⟨rfl,b2⟩;have HB12 : Hid (Below w1.heap.size w1 w2) := below_step (w0 := w1) (by repeat (first | exact Below.refl _ _ | apply Below.drew)) b2;have HP2 := hid (below_step HP1.out HB12.out);obtain ⟨c20,c21⟩ := HKB.out w2 HP2.out;have r0 := (HKR.out w2 HP2.out).c0;have r1 := (HKR.out w2 HP2.out).c1;have f0 := (HKR.out w2 HP2.out).fz 0;have f1 := (HKR.out w2 HP2.out).fz 1))
 all_goals go_wp2
 all_goals exact bodyPost_ret (zBB Tryz.results44 ((HKR.out w2 HP2.out).set _ _) _ (by rfl)) rfl (zYD (W0 := W0) HM.out q1 (HV.out zs v1) (by omega) HB12.out HP2.out B0.out (by omega) (by omega))
theorem zqI {w : World} {v : Value} {z : Int} {k : Nat} (h0 : Zi w v z k) :
  Calls Tryz.prog 45 #[v] w (zOA w ((z.natAbs : Int)) (k)) := by
 obtain ⟨n,xs,a,c,rfl,s0,z0,k0⟩ := h0;have hx := s0.1;obtain ⟨W0,hW0⟩ : ∃ W0,(w.alloc (duo (.bool n) (.slice a xs.length c))).alloc zbox = W0 := ⟨_,rfl⟩
 obtain ⟨b0,sz0⟩ := zXA w (duo (.bool n) (.slice a xs.length c)) zbox;rw [hW0] at b0 sz0;have p0 : Duo W0 (w.heap.size) (.bool n) (.slice a xs.length c) := by rw [← hW0];exact zAA (zCA (by simp)) _
 have pR : Duo W0 (w.heap.size + 1) (.bool false) (.slice none 0 0) := by rw [← hW0];exact zCA (by simp)
 have HKB : Hid (∀ w',Below W0.heap.size W0 w' → w'.cell? ⟨w.heap.size,0,none⟩ = some (.bool n) ∧ w'.cell? ⟨w.heap.size,1,none⟩ = some (.slice a xs.length c)) := fun w' h => ⟨(p0.below h (by omega)).c0,(p0.below h (by omega)).c1⟩
 have HKR : Hid (∀ w',Below W0.heap.size W0 w' → Duo w' (w.heap.size + 1) (.bool false) (.slice none 0 0)) := fun w' h => pR.below h (by omega)
 obtain ⟨i0,i1⟩ := HKB.out W0 (Below.refl _ _);have EW := hid hW0;have B0 := hid b0;have HL : Hid (∀ w',Below W0.heap.size W0 w' → Calls Tryz.prog 75 #[.slice a xs.length c] w' (Mk w' (val xs) xs.length)) := fun w' h => zkE ((s0.now b0).now h)
 have HV : Hid (∀ zs,val zs = val xs → iv false zs = (z.natAbs : Int)) := fun zs e => by
  have := zEA hx;rw [zVF _ e,zdB,← z0];cases n <;> simp [iv] <;> omega
 clear s0 p0 pR hW0 b0 z0;go_enter Tryz.func45,Tryz.ntmps45;go_wp2_with fail;rw [EW.out];refine (HL.out W0 (Below.refl _ _)).mono ?_;rintro e w1 ⟨zs,az,cz,rfl,m1,q1,v1,l1,b1⟩;have HP1 := hid b1;have HM := hid m1;obtain ⟨c10,c11⟩ := HKB.out w1 HP1.out;clear b1 m1 i0 i1;go_wp2_with fail;refine (zbA _ false zs.length az cz HM.out.len).mono ?_;rintro e w2 ⟨rfl,b2⟩;have HB12 := hid b2;have HP2 := hid (below_step HP1.out HB12.out);have r0 := (HKR.out w2 HP2.out).c0;have r1 := (HKR.out w2 HP2.out).c1;have f0 := (HKR.out w2 HP2.out).fz 0;have f1 := (HKR.out w2 HP2.out).fz 1;clear b2
 all_goals go_wp2
 all_goals exact bodyPost_ret (zBB Tryz.results45 ((HKR.out w2 HP2.out).set _ _) _ (by rfl)) rfl (zYD (W0 := W0) HM.out q1 (HV.out zs v1) (by omega) HB12.out HP2.out B0.out (by omega) (by omega))
theorem zVI {w : World} {v u : Value} {z y : Int} {k l : Nat} (h0 : Zi w v z k) (h1 : Zi w u y l) (hl : k + l ≤ 35184372088832) :
  Calls Tryz.prog 18 #[v,u] w (zOA w (z * y) (k + l)) := by
 obtain ⟨n,xs,a,c,rfl,s0,z0,k0⟩ := h0;obtain ⟨m,ys,b,d,rfl,s1,z1,k1⟩ := h1;obtain ⟨W0,hW0⟩ : ∃ W0,((w.alloc (duo (.bool n) (.slice a xs.length c))).alloc (duo (.bool m) (.slice b ys.length d))).alloc zbox = W0 := ⟨_,rfl⟩
 obtain ⟨b0,sz0⟩ := zKB w (duo (.bool n) (.slice a xs.length c)) (duo (.bool m) (.slice b ys.length d)) zbox;rw [hW0] at b0 sz0;have p0 : Duo W0 (w.heap.size) (.bool n) (.slice a xs.length c) := by rw [← hW0];exact zAA (zAA (zCA (by simp)) _) _
 have p1 : Duo W0 (w.heap.size + 1) (.bool m) (.slice b ys.length d) := by rw [← hW0];exact zAA (zCA (by simp)) _
 have pR : Duo W0 (w.heap.size + 1 + 1) (.bool false) (.slice none 0 0) := by rw [← hW0];exact zCA (by simp)
 have HKB : Hid (∀ w',Below W0.heap.size W0 w' → w'.cell? ⟨w.heap.size,0,none⟩ = some (.bool n) ∧ w'.cell? ⟨w.heap.size,1,none⟩ = some (.slice a xs.length c) ∧ w'.cell? ⟨w.heap.size + 1,0,none⟩ = some (.bool m) ∧ w'.cell? ⟨w.heap.size + 1,1,none⟩ = some (.slice b ys.length d)) := fun w' h => ⟨(p0.below h (by omega)).c0,(p0.below h (by omega)).c1,(p1.below h (by omega)).c0,(p1.below h (by omega)).c1⟩
 have HKR : Hid (∀ w',Below W0.heap.size W0 w' → Duo w' (w.heap.size + 1 + 1) (.bool false) (.slice none 0 0)) := fun w' h => pR.below h (by omega)
 obtain ⟨i0,i1,i2,i3⟩ := HKB.out W0 (Below.refl _ _);have EW := hid hW0;have B0 := hid b0;have HL : Hid (∀ w',Below W0.heap.size W0 w' → Calls Tryz.prog 59 #[.slice a xs.length c,.slice b ys.length d] w' (Mk w' (val xs * val ys) (xs.length + ys.length))) := fun w' h => mul_m ((s0.now b0).now h) ((s1.now b0).now h) (by omega)
 have HV : Hid (∀ zs,val zs = val xs * val ys → iv (n != m) zs = z * y) := fun zs e => by
  rw [← z0,← z1];cases n <;> cases m <;> simp [iv,e,Int.mul_neg,Int.neg_mul]
 clear s0 p0 s1 p1 pR hW0 b0 z0 z1;go_enter Tryz.func18,Tryz.ntmps18;go_wp2_with fail;rw [EW.out];go_region_held3 (fun w' => w'.cell? ⟨w.heap.size,0,none⟩ = some (.bool n) ∧ w'.cell? ⟨w.heap.size,1,none⟩ = some (.slice a xs.length c) ∧ w'.cell? ⟨w.heap.size + 1,0,none⟩ = some (.bool m) ∧ w'.cell? ⟨w.heap.size + 1,1,none⟩ = some (.slice b ys.length d))
  (first
   | ((try dsimp only);refine ⟨?_,?_,?_,?_⟩ <;> with_reducible (repeat (refine zAF (by omega) ?_)) <;> with_reducible assumption)
   | (refine HKB.out _ ?_;repeat (first | with_reducible exact HP2.out | with_reducible exact HP1.out | with_reducible exact Below.refl _ _ | with_reducible apply Below.drew)))
  (first
   | (go_at_call 59;refine (HL.out _ ?_).mono ?_;(repeat (first | exact Below.refl _ _ | apply Below.drew));rintro e w1 ⟨zs,az,cz,rfl,m1,q1,v1,l1,b1⟩;have HP1 := hid (below_step (w0 := W0) (by repeat (first | exact Below.refl _ _ | apply Below.drew)) b1);obtain ⟨c10,c11,c12,c13⟩ := HKB.out w1 HP1.out;have HM := hid m1)
   | (go_at_call 58;refine (zbA _ (n != m) zs.length az cz HM.out.len).mono ?_;rintro e w2 ⟨rfl,b2⟩;have HB12 : Hid (Below w1.heap.size w1 w2) := below_step (w0 := w1) (by repeat (first | exact Below.refl _ _ | apply Below.drew)) b2;have HP2 := hid (below_step HP1.out HB12.out);obtain ⟨c20,c21,c22,c23⟩ := HKB.out w2 HP2.out;have r0 := (HKR.out w2 HP2.out).c0;have r1 := (HKR.out w2 HP2.out).c1;have f0 := (HKR.out w2 HP2.out).fz 0;have f1 := (HKR.out w2 HP2.out).fz 1))
 all_goals go_wp2
 all_goals exact bodyPost_ret (zBB Tryz.results18 ((HKR.out w2 HP2.out).set _ _) _ (by rfl)) rfl (zYD (W0 := W0) HM.out q1 (HV.out zs v1) (by omega) HB12.out HP2.out B0.out (by omega) (by omega))
theorem iv_sign {n : Bool} {xs : List Int} {z : Int} (hx : WF xs) (h : iv n xs = z) : (vn xs = 0 ∧ z = 0) ∨ (vn xs ≠ 0 ∧ n = true ∧ z < 0) ∨ (vn xs ≠ 0 ∧ n = false ∧ 0 < z) := by
 have hv := zJA hx;cases n
 ·rw [zdB] at h
  by_cases e : vn xs = 0
  ·exact .inl ⟨e,by omega⟩
  ·exact .inr (.inr ⟨e,rfl,by omega⟩)
 ·rw [zaC] at h
  by_cases e : vn xs = 0
  ·exact .inl ⟨e,by omega⟩
  ·exact .inr (.inl ⟨e,rfl,by omega⟩)
theorem zgF {v : Nat} (h : v ≠ 0) : bitLen v ≠ 0 := by unfold bitLen;rw [if_neg h];omega
theorem zbB {w : World} {v : Value} {z : Int} {k : Nat} (h : Zi w v z k) :
  Calls Tryz.prog 41 #[v] w fun e w' => e = .returned (.int .i64 (cmpI z 0)) ∧ Below w.heap.size w w' := by
 obtain ⟨n,xs,a,c,rfl,s0,z0,k0⟩ := h;have b0 : Below w.heap.size w (w.alloc (duo (.bool n) (.slice a xs.length c))) := (Below.refl _ _).alloc (Nat.le_refl _) _;have HB := hid (zhF (s0.now b0));have B0 := hid b0;rcases iv_sign s0.1 z0 with ⟨e0,ez⟩ | ⟨e0,rfl,ez⟩ | ⟨e0,rfl,ez⟩
 ·subst ez
  rw [cmpI_self];have eb : bitLen (vn xs) = 0 := by rw [e0];rfl
  rw [eb] at HB;clear s0 z0 b0 eb e0;go_enter Tryz.func41,Tryz.ntmps41;go_wp2_with fail;refine HB.out.mono ?_;rintro e w1 ⟨rfl,rfl⟩;go_wp2;go_ret;exact ⟨rfl,B0.out⟩
 ·rw [zhA ez]
  have eb := zgF e0;obtain ⟨q,hq⟩ : ∃ q,bitLen (vn xs) = q + 1 := ⟨bitLen (vn xs) - 1,by omega⟩
  rw [hq] at HB;have hne : (((q + 1 : Nat) : Int) == 0) = false := by rw [beq_eq_false_iff_ne];omega
  clear s0 z0 b0 eb e0 hq ez;go_enter Tryz.func41,Tryz.ntmps41;go_wp2_with fail;refine HB.out.mono ?_;rintro e w1 ⟨rfl,rfl⟩;go_wp2;go_ret;exact ⟨rfl,B0.out⟩
 ·rw [ziA ez]
  have eb := zgF e0;obtain ⟨q,hq⟩ : ∃ q,bitLen (vn xs) = q + 1 := ⟨bitLen (vn xs) - 1,by omega⟩
  rw [hq] at HB;have hne : (((q + 1 : Nat) : Int) == 0) = false := by rw [beq_eq_false_iff_ne];omega
  clear s0 z0 b0 eb e0 hq ez;go_enter Tryz.func41,Tryz.ntmps41;go_wp2_with fail;refine HB.out.mono ?_;rintro e w1 ⟨rfl,rfl⟩;go_wp2;go_ret;exact ⟨rfl,B0.out⟩
theorem zbC {n : Bool} {xs : List Int} {z : Int} (hx : WF xs) (h : iv n xs = z) : val xs = (z.natAbs : Int) := by
 have := zEA hx;cases n
 ·rw [zdB] at h;omega
 ·rw [zaC] at h;omega
theorem zrC {w : World} {v u : Value} {z y : Int} {k l : Nat} (h : Zi w v z k) (h' : Zi w u y l) :
  Calls Tryz.prog 43 #[v,u] w fun e w' => e = .returned (.int .i64 (cmpI (z.natAbs : Int) (y.natAbs : Int))) ∧ Below w.heap.size w w' := by
 obtain ⟨n,xs,a,c,rfl,s0,z0,k0⟩ := h;obtain ⟨m,ys,b,d,rfl,s1,z1,k1⟩ := h';have b0 := (zXA w (duo (.bool n) (.slice a xs.length c)) (duo (.bool m) (.slice b ys.length d))).1;have HC := hid (zwF (s0.now b0) (s1.now b0));rw [zbC s0.1 z0,zbC s1.1 z1] at HC;have B0 := hid b0;clear s0 s1 z0 z1 b0;generalize cmpI (z.natAbs : Int) (y.natAbs : Int) = C at *;go_enter Tryz.func43,Tryz.ntmps43;go_wp2_with fail;refine HC.out.mono ?_;rintro e w1 ⟨rfl,b1⟩;have B1 := hid (below_step B0.out b1);clear b1 HC;go_wp2;go_ret;exact ⟨rfl,B1.out⟩
theorem zNG (x : Int) (w : World) : Calls Tryz.prog 109 #[.int .i64 x] w fun e w' => e = .returned (.bool false) ∧ w' = w := by
 have h : (x != x) = false := by simp
 go_enter Tryz.func109,Tryz.ntmps109;go_wp2;go_ret;exact ⟨rfl,rfl⟩
theorem compare_any (x y : Int) (w : World) : Calls Tryz.prog 77 #[.int .i64 x,.int .i64 y] w fun e w' => e = .returned (.int .i64 (cmpI x y)) ∧ w' = w := by
 have H1 := hid (zNG x w);have H2 := hid (zNG y w);have key : (x < y ∧ cmpI x y = -1) ∨ (¬ x < y ∧ y < x ∧ cmpI x y = 1) ∨ (¬ x < y ∧ ¬ y < x ∧ cmpI x y = 0) := by
  unfold cmpI
  by_cases h1 : x < y
  ·exact .inl ⟨h1,if_pos h1⟩
  ·by_cases h2 : y < x
   ·exact .inr (.inl ⟨h1,h2,by rw [if_neg h1,if_pos h2]⟩)
   ·exact .inr (.inr ⟨h1,h2,by rw [if_neg h1,if_neg h2]⟩)
 rcases key with ⟨h1,e⟩ | ⟨h1,h2,e⟩ | ⟨h1,h2,e⟩
 all_goals
  rw [e];clear e;go_enter Tryz.func77,Tryz.ntmps77;go_wp2_with fail;refine H1.out.mono ?_;rintro e w1 ⟨rfl,rfl⟩;go_wp2_with fail;refine H2.out.mono ?_;rintro e w1 ⟨rfl,rfl⟩;go_wp2;go_ret;exact ⟨rfl,rfl⟩
theorem cmp_signs {z y : Int} : (cmpI (cmpI z 0) (cmpI y 0) ≠ 0 → cmpI (cmpI z 0) (cmpI y 0) = cmpI z y) ∧ (cmpI (cmpI z 0) (cmpI y 0) = 0 → cmpI z 0 * cmpI (z.natAbs : Int) (y.natAbs : Int) = cmpI z y) := by
 unfold cmpI
 constructor <;> intro h <;> (repeat' split at h) <;> (repeat' split) <;> omega
theorem zTA (x y : Int) : -1 ≤ cmpI x y ∧ cmpI x y ≤ 1 := by
 unfold cmpI
 (repeat' split) <;> omega
theorem zyE {w : World} {v u : Value} {z y : Int} {k l : Nat} (h : Zi w v z k) (h' : Zi w u y l) :
  Calls Tryz.prog 42 #[v,u] w fun e w' => e = .returned (.int .i64 (cmpI z y)) ∧ Below w.heap.size w w' := by
 have hv := h;have hu := h';obtain ⟨n,xs,a,c,rfl,s0,z0,k0⟩ := h;obtain ⟨m,ys,b,d,rfl,s1,z1,k1⟩ := h';obtain ⟨W0,hW0⟩ : ∃ W0,(w.alloc (duo (.bool n) (.slice a xs.length c))).alloc (duo (.bool m) (.slice b ys.length d)) = W0 := ⟨_,rfl⟩
 obtain ⟨b0,sz0⟩ := zXA w (duo (.bool n) (.slice a xs.length c)) (duo (.bool m) (.slice b ys.length d));rw [hW0] at b0 sz0;have p0 : Duo W0 w.heap.size (.bool n) (.slice a xs.length c) := by rw [← hW0];exact zAA (zCA rfl) _
 have p1 : Duo W0 (w.heap.size + 1) (.bool m) (.slice b ys.length d) := by rw [← hW0];exact zCA (by simp)
 have HKB : Hid (∀ w',Below W0.heap.size W0 w' → Duo w' w.heap.size (.bool n) (.slice a xs.length c) ∧ Duo w' (w.heap.size + 1) (.bool m) (.slice b ys.length d)) := fun w' h => ⟨p0.below h (by omega),p1.below h (by omega)⟩
 have H1 := hid (zbB (hv.now b0));have H2 : Hid (∀ w',Below W0.heap.size W0 w' → _) := fun w' h => zbB ((hu.now b0).now h)
 have H3 : Hid (∀ w',Below W0.heap.size W0 w' → _) := fun w' h => zrC ((hv.now b0).now h) ((hu.now b0).now h)
 have HS := hid (@cmp_signs z y);have bd := zTA z 0;have bd2 := zTA (z.natAbs : Int) (y.natAbs : Int);have EW := hid hW0;have B0 := hid b0;clear hv hu s0 s1 z0 z1 b0 p0 p1 hW0;generalize cmpI z 0 = S at *;generalize cmpI y 0 = T at *;generalize cmpI (z.natAbs : Int) (y.natAbs : Int) = U at *;generalize cmpI z y = R at *;have HC : Hid (∀ w',_) := fun w' => compare_any S T w'
 obtain ⟨C,hC⟩ : ∃ C,cmpI S T = C := ⟨_,rfl⟩
 rw [hC] at HC HS;clear hC;go_enter Tryz.func42,Tryz.ntmps42;go_wp2_with fail;rw [EW.out];refine H1.out.mono ?_;rintro e w1 ⟨rfl,b1⟩;obtain ⟨d0,d1⟩ := HKB.out w1 b1;have e0 := d1.c0;have e1 := d1.c1;have B1 := hid b1;clear b1 H1 d0 d1;go_wp2_with fail;refine (H2.out w1 B1.out).mono ?_;rintro e w2 ⟨rfl,b2⟩;have B2 := hid (below_step B1.out b2);clear b2 e0 e1;go_wp2_with fail;refine (HC.out w2).mono ?_;rintro e w3 ⟨rfl,rfl⟩
 by_cases h0 : C = 0
 ·have hne : (C != 0) = false := by simp [h0]
  have HR := hid (HS.out.2 h0);have hm : IntKind.i64.wrap (S * U) = R := by
   rw [HR.out,zYA] <;> rw [← HR.out]
   all_goals (obtain ⟨q1,q2⟩ := bd;obtain ⟨q3,q4⟩ := bd2;rcases (show S = -1 ∨ S = 0 ∨ S = 1 by omega) with rfl | rfl | rfl <;> omega)
  obtain ⟨d0,d1⟩ := HKB.out w3 B2.out;have e0 := d1.c0;have e1 := d1.c1;have g0 := d0.c0;have g1 := d0.c1;clear d0 d1;go_wp2_with fail;refine (H3.out w3 B2.out).mono ?_;rintro e w4 ⟨rfl,b4⟩;have B4 := hid (below_step B0.out (below_step B2.out b4));clear b4;go_wp2;go_ret;exact ⟨by first | rfl | rw [hm],B4.out⟩
 ·have hne : (C != 0) = true := by simp [h0]
  have HR := hid (HS.out.1 h0);go_wp2;go_ret;exact ⟨by rw [HR.out];rfl,below_step B0.out B2.out⟩
end Go.Proofs.YtkdobgbicnemcaaGreatDoor
