import Derived.Test.YtkdobgbicnemcaaGreatDoorQZOnesToZCmp
set_option maxRecDepth 100000
set_option maxHeartbeats 6400000
set_option linter.unusedVariables false
set_option linter.unusedSimpArgs false
namespace Go.Proofs.YtkdobgbicnemcaaGreatDoor
open Go.RowKit
theorem zID (w : World) (x : Int) (hx : 0 ≤ x ∧ x ≤ 18446744073709551615) : Sl (w.alloc (.cells #[.int .u64 x] 53)).heap.size (w.alloc (.cells #[.int .u64 x] 53)) (.slice (some ⟨w.heap.size,0,none⟩) 1 1) [x] :=
 zJH w [x] #[.int .u64 x] rfl (zdC (by omega) WF.nil) (by simp) 1 rfl
theorem Duo.ne {w : World} {b b' i : Nat} {x y u : Value} (h : Duo w b x y) (hne : b' ≠ b) : Duo (w.setCell ⟨b',i,none⟩ u) b x y := by
 have e : (w.setCell ⟨b',i,none⟩ u).heap[b]? = w.heap[b]? := Below.heap_setCell w _ u b (fun e => by simp at e;omega);exact e.trans h
theorem of_z {n : Int} (h0 : -9223372036854775808 ≤ n) (h1 : n ≤ 9223372036854775807) (w : World) :
  Calls Tryz.prog 39 #[.int .i64 n] w (zOA w n 1) := by
 by_cases hn : n < 0
 ·have e1 : IntKind.u64.wrap n = n + 18446744073709551616 := by rw [IntKind.wrap_u64];omega
  have e2 : IntKind.u64.wrap (-(n + 18446744073709551616)) = -n := by rw [IntKind.wrap_u64];omega
  obtain ⟨x,hx⟩ : ∃ x,(-n) = x := ⟨_,rfl⟩
  have bx : 0 ≤ x ∧ x ≤ 18446744073709551615 := by omega
  obtain ⟨W0,hW0⟩ : ∃ W0,(w.alloc zbox).alloc (.cells #[.int .u64 x] 53) = W0 := ⟨_,rfl⟩
  obtain ⟨b0,sz0⟩ := zXA w zbox (.cells #[.int .u64 x] 53);rw [hW0] at b0 sz0;have pR : Duo W0 w.heap.size (.bool false) (.slice none 0 0) := by rw [← hW0];exact zAA (zCA rfl) _
  have hs : Sl W0.heap.size W0 (.slice (some ⟨w.heap.size + 1,0,none⟩) 1 1) [x] := by
   have := zID (w.alloc zbox) x bx;rw [hW0] at this
   simpa using this
  have HL := hid (zkE hs);have HKR : Hid (∀ w',Below W0.heap.size W0 w' → Duo w' w.heap.size (.bool false) (.slice none 0 0)) := fun w' h => pR.below h (by omega)
  have EW := hid hW0;have B0 := hid b0;have EX := hid hx;have HV : Hid (∀ zs,val zs = val [x] → iv true zs = n) := fun zs e => by
   rw [zVF _ e];simp [iv,val] <;> omega
  clear hs pR hW0 b0 bx;go_enter Tryz.func39,Tryz.ntmps39;go_wp2_with fail;rw [EW.out];refine HL.out.mono ?_;rintro e w1 ⟨zs,az,cz,rfl,m1,q1,v1,l1,b1⟩;have HM := hid m1;have HP1 := hid b1;clear m1 b1 HL;go_wp2_with fail;refine (zbA _ true zs.length az cz HM.out.len).mono ?_;rintro e w2 ⟨rfl,b2⟩;have HB12 := hid b2;have HP2 := hid (below_step HP1.out HB12.out);have r0 := (HKR.out w2 HP2.out).c0;have r1 := (HKR.out w2 HP2.out).c1;have f0 := (HKR.out w2 HP2.out).fz 0;have f1 := (HKR.out w2 HP2.out).fz 1;clear b2;go_wp2;exact bodyPost_ret (zBB Tryz.results39 ((HKR.out w2 HP2.out).set _ _) _ (by rfl)) rfl (zYD (W0 := W0) HM.out q1 (HV.out zs v1) (by simpa using l1) HB12.out HP2.out B0.out (by omega) (by omega))
 ·have hn' : ¬ n < 0 := hn
  have e1 : IntKind.u64.wrap n = n := by rw [IntKind.wrap_u64];omega
  have hd : decide (n < 0) = false := by simp;omega
  have bx : 0 ≤ n ∧ n ≤ 18446744073709551615 := by omega
  obtain ⟨W0,hW0⟩ : ∃ W0,(w.alloc zbox).alloc (.cells #[.int .u64 n] 53) = W0 := ⟨_,rfl⟩
  obtain ⟨b0,sz0⟩ := zXA w zbox (.cells #[.int .u64 n] 53);rw [hW0] at b0 sz0;have pR : Duo W0 w.heap.size (.bool false) (.slice none 0 0) := by rw [← hW0];exact zAA (zCA rfl) _
  have hs : Sl W0.heap.size W0 (.slice (some ⟨w.heap.size + 1,0,none⟩) 1 1) [n] := by
   have := zID (w.alloc zbox) n bx;rw [hW0] at this
   simpa using this
  have HL := hid (zkE hs);have HKR : Hid (∀ w',Below W0.heap.size W0 w' → Duo w' w.heap.size (.bool false) (.slice none 0 0)) := fun w' h => pR.below h (by omega)
  have EW := hid hW0;have B0 := hid b0;have HV : Hid (∀ zs,val zs = val [n] → iv false zs = n) := fun zs e => by
   rw [zVF _ e];simp [iv,val] <;> omega
  clear hs pR hW0 b0 bx;go_enter Tryz.func39,Tryz.ntmps39;go_wp2_with fail;rw [EW.out];refine HL.out.mono ?_;rintro e w1 ⟨zs,az,cz,rfl,m1,q1,v1,l1,b1⟩;have HM := hid m1;have HP1 := hid b1;clear m1 b1 HL;go_wp2_with fail;refine (zbA _ false zs.length az cz HM.out.len).mono ?_;rintro e w2 ⟨rfl,b2⟩;have HB12 := hid b2;have HP2 := hid (below_step HP1.out HB12.out);have r0 := (HKR.out w2 HP2.out).c0;have r1 := (HKR.out w2 HP2.out).c1;have f0 := (HKR.out w2 HP2.out).fz 0;have f1 := (HKR.out w2 HP2.out).fz 1;clear b2;go_wp2;exact bodyPost_ret (zBB Tryz.results39 ((HKR.out w2 HP2.out).set _ _) _ (by rfl)) rfl (zYD (W0 := W0) HM.out q1 (HV.out zs v1) (by simpa using l1) HB12.out HP2.out B0.out (by omega) (by omega))
theorem add_same {w : World} {n m : Bool} {xs ys : List Int} {a b : Option Addr} {c d k l : Nat} (s0 : Sl w.heap.size w (.slice a xs.length c) xs) (s1 : Sl w.heap.size w (.slice b ys.length d) ys) (k0 : xs.length ≤ k) (k1 : ys.length ≤ l) (hk : k < 35184372088832) (hl : l < 35184372088832) (hnm : n = m) :
  Calls Tryz.prog 46 #[.agg #[.bool n,.slice a xs.length c],.agg #[.bool m,.slice b ys.length d]] w (zOA w (iv n xs + iv m ys) (max k l + 1)) := by
 have hq : (n == m) = true := by simp [hnm]
 obtain ⟨W0,hW0⟩ : ∃ W0,((w.alloc (duo (.bool n) (.slice a xs.length c))).alloc (duo (.bool m) (.slice b ys.length d))).alloc zbox = W0 := ⟨_,rfl⟩
 obtain ⟨b0,sz0⟩ := zKB w (duo (.bool n) (.slice a xs.length c)) (duo (.bool m) (.slice b ys.length d)) zbox;rw [hW0] at b0 sz0;have p0 : Duo W0 (w.heap.size) (.bool n) (.slice a xs.length c) := by rw [← hW0];exact zAA (zAA (zCA (by simp)) _) _
 have p1 : Duo W0 (w.heap.size + 1) (.bool m) (.slice b ys.length d) := by rw [← hW0];exact zAA (zCA (by simp)) _
 have pR : Duo W0 (w.heap.size + 1 + 1) (.bool false) (.slice none 0 0) := by rw [← hW0];exact zCA (by simp)
 have HKB : Hid (∀ w',Below W0.heap.size W0 w' → w'.cell? ⟨w.heap.size,0,none⟩ = some (.bool n) ∧ w'.cell? ⟨w.heap.size,1,none⟩ = some (.slice a xs.length c) ∧ w'.cell? ⟨w.heap.size + 1,0,none⟩ = some (.bool m) ∧ w'.cell? ⟨w.heap.size + 1,1,none⟩ = some (.slice b ys.length d)) := fun w' h => ⟨(p0.below h (by omega)).c0,(p0.below h (by omega)).c1,(p1.below h (by omega)).c0,(p1.below h (by omega)).c1⟩
 have HKR : Hid (∀ w',Below W0.heap.size W0 w' → Duo w' (w.heap.size + 1 + 1) (.bool false) (.slice none 0 0)) := fun w' h => pR.below h (by omega)
 obtain ⟨i0,i1,i2,i3⟩ := HKB.out W0 (Below.refl _ _);have EW := hid hW0;have B0 := hid b0;have HL : Hid (∀ w',Below W0.heap.size W0 w' → Calls Tryz.prog 79 #[.slice a xs.length c,.slice b ys.length d] w' (Mk w' (val xs + val ys) (max xs.length ys.length + 1))) := fun w' h => add_m ((s0.now b0).now h) ((s1.now b0).now h) (by omega) (by omega)
 have HV : Hid (∀ zs,val zs = val xs + val ys → iv n zs = iv n xs + iv m ys) := fun zs e => by
  subst hnm;cases n <;> simp [iv,e] <;> omega
 clear s0 s1 p0 p1 pR hW0 b0 hnm;go_enter Tryz.func46,Tryz.ntmps46;go_wp2_with fail;rw [EW.out];go_region_held3 (fun w' => w'.cell? ⟨w.heap.size,0,none⟩ = some (.bool n) ∧ w'.cell? ⟨w.heap.size,1,none⟩ = some (.slice a xs.length c) ∧ w'.cell? ⟨w.heap.size + 1,0,none⟩ = some (.bool m) ∧ w'.cell? ⟨w.heap.size + 1,1,none⟩ = some (.slice b ys.length d))
  (first
   | ((try dsimp only);refine ⟨?_,?_,?_,?_⟩ <;> with_reducible (repeat (refine zAF (by omega) ?_)) <;> with_reducible assumption)
   | (refine HKB.out _ ?_;repeat (first | with_reducible exact HP2.out | with_reducible exact HP1.out | with_reducible exact Below.refl _ _ | with_reducible apply Below.drew)))
  (first
   | (go_at_call 79;refine (HL.out _ ?_).mono ?_;(repeat (first | exact Below.refl _ _ | apply Below.drew));rintro e w1 ⟨zs,az,cz,rfl,m1,q1,v1,l1,b1⟩;have HP1 := hid (below_step (w0 := W0) (by repeat (first | exact Below.refl _ _ | apply Below.drew)) b1);obtain ⟨c10,c11,c12,c13⟩ := HKB.out w1 HP1.out;have HM := hid m1)
   | (go_at_call 58;refine (zbA _ n zs.length az cz HM.out.len).mono ?_;rintro e w2 ⟨rfl,b2⟩;have HB12 : Hid (Below w1.heap.size w1 w2) := below_step (w0 := w1) (by repeat (first | exact Below.refl _ _ | apply Below.drew)) b2;have HP2 := hid (below_step HP1.out HB12.out);obtain ⟨c20,c21,c22,c23⟩ := HKB.out w2 HP2.out;have r0 := (HKR.out w2 HP2.out).c0;have r1 := (HKR.out w2 HP2.out).c1;have f0 := (HKR.out w2 HP2.out).fz 0;have f1 := (HKR.out w2 HP2.out).fz 1))
 all_goals go_wp2
 all_goals exact bodyPost_ret (zBB Tryz.results46 ((HKR.out w2 HP2.out).set _ _) _ (by rfl)) rfl (zYD (W0 := W0) HM.out q1 (HV.out zs v1) (by omega) HB12.out HP2.out B0.out (by omega) (by omega))
theorem add_diff {w : World} {n m : Bool} {xs ys : List Int} {a b : Option Addr} {c d k l : Nat} (s0 : Sl w.heap.size w (.slice a xs.length c) xs) (s1 : Sl w.heap.size w (.slice b ys.length d) ys) (k0 : xs.length ≤ k) (k1 : ys.length ≤ l) (hk : k < 35184372088832) (hl : l < 35184372088832) (hnm : n ≠ m) (hge : val ys ≤ val xs) :
  Calls Tryz.prog 46 #[.agg #[.bool n,.slice a xs.length c],.agg #[.bool m,.slice b ys.length d]] w (zOA w (iv n xs + iv m ys) (max k l + 1)) := by
 have hq : (n == m) = false := by simp [hnm]
 obtain ⟨W0,hW0⟩ : ∃ W0,((w.alloc (duo (.bool n) (.slice a xs.length c))).alloc (duo (.bool m) (.slice b ys.length d))).alloc zbox = W0 := ⟨_,rfl⟩
 obtain ⟨b0,sz0⟩ := zKB w (duo (.bool n) (.slice a xs.length c)) (duo (.bool m) (.slice b ys.length d)) zbox;rw [hW0] at b0 sz0;have p0 : Duo W0 (w.heap.size) (.bool n) (.slice a xs.length c) := by rw [← hW0];exact zAA (zAA (zCA (by simp)) _) _
 have p1 : Duo W0 (w.heap.size + 1) (.bool m) (.slice b ys.length d) := by rw [← hW0];exact zAA (zCA (by simp)) _
 have pR : Duo W0 (w.heap.size + 1 + 1) (.bool false) (.slice none 0 0) := by rw [← hW0];exact zCA (by simp)
 have HKB : Hid (∀ w',Below W0.heap.size W0 w' → w'.cell? ⟨w.heap.size,0,none⟩ = some (.bool n) ∧ w'.cell? ⟨w.heap.size,1,none⟩ = some (.slice a xs.length c) ∧ w'.cell? ⟨w.heap.size + 1,0,none⟩ = some (.bool m) ∧ w'.cell? ⟨w.heap.size + 1,1,none⟩ = some (.slice b ys.length d)) := fun w' h => ⟨(p0.below h (by omega)).c0,(p0.below h (by omega)).c1,(p1.below h (by omega)).c0,(p1.below h (by omega)).c1⟩
 have HKR : Hid (∀ w',Below W0.heap.size W0 w' → Duo w' (w.heap.size + 1 + 1) (.bool false) (.slice none 0 0)) := fun w' h => pR.below h (by omega)
 obtain ⟨i0,i1,i2,i3⟩ := HKB.out W0 (Below.refl _ _);have EW := hid hW0;have B0 := hid b0;have HC := hid (zrC (w := W0) (v := .agg #[.bool n,.slice a xs.length c]) (u := .agg #[.bool m,.slice b ys.length d]) ⟨n,xs,a,c,rfl,s0.now b0,rfl,k0⟩ ⟨m,ys,b,d,rfl,s1.now b0,rfl,k1⟩);rw [← zbC s0.1 rfl,← zbC s1.1 rfl] at HC;have hcmp := zxA hge;generalize cmpI (val xs) (val ys) = C at *;have HL : Hid (∀ w',Below W0.heap.size W0 w' → _) := fun w' h => zxI ((s0.now b0).now h) ((s1.now b0).now h) hge
 have HV : Hid (∀ zs,val zs = val xs - val ys → iv n zs = iv n xs + iv m ys) := fun zs e => by
  cases n <;> cases m <;> simp [iv,e] at hnm ⊢ <;> omega
 clear s0 s1 p0 p1 pR hW0 b0 hnm hge;go_enter Tryz.func46,Tryz.ntmps46;go_wp2_with fail;rw [EW.out];refine HC.out.mono ?_;rintro e w1 ⟨rfl,b1⟩;have HP1 := hid b1;obtain ⟨c10,c11,c12,c13⟩ := HKB.out w1 HP1.out;clear b1 HC i0 i1 i2 i3;go_wp2_with fail;refine (HL.out w1 HP1.out).mono ?_;rintro e w2 ⟨zs,az,cz,rfl,m1,q1,v1,l1,b2⟩;have HM := hid (m1.mono HP1.out.size);have HP2 := hid (below_step HP1.out b2);obtain ⟨c20,c21,c22,c23⟩ := HKB.out w2 HP2.out;clear b2 m1 c10 c11 c12 c13;go_wp2_with fail;refine (zbA _ n zs.length az cz HM.out.len).mono ?_;rintro e w3 ⟨rfl,b3⟩;have HB23 := hid b3;have HP3 := hid (below_step HP2.out HB23.out);have pR := HKR.out w3 HP3.out;have r0 := pR.c0;have r1 := pR.c1;have f0 := pR.fz 0;have f1 := pR.fz 1;have PR := hid pR;clear b3 pR;go_wp2;exact bodyPost_ret (zBB Tryz.results46 (PR.out.set _ _) _ (by rfl)) rfl (zYD (W0 := W0) HM.out q1 (HV.out zs v1) (by omega) HB23.out HP3.out B0.out (by omega) (by omega))
theorem add_swap {w : World} {n m : Bool} {xs ys : List Int} {a b : Option Addr} {c d k l : Nat} (s0 : Sl w.heap.size w (.slice a xs.length c) xs) (s1 : Sl w.heap.size w (.slice b ys.length d) ys) (k0 : xs.length ≤ k) (k1 : ys.length ≤ l) (hk : k < 35184372088832) (hl : l < 35184372088832) (hnm : n ≠ m) (hge : val xs < val ys) :
  Calls Tryz.prog 46 #[.agg #[.bool n,.slice a xs.length c],.agg #[.bool m,.slice b ys.length d]] w (zOA w (iv n xs + iv m ys) (max k l + 1)) := by
 have hq : (n == m) = false := by simp [hnm]
 obtain ⟨W0,hW0⟩ : ∃ W0,((w.alloc (duo (.bool n) (.slice a xs.length c))).alloc (duo (.bool m) (.slice b ys.length d))).alloc zbox = W0 := ⟨_,rfl⟩
 obtain ⟨b0,sz0⟩ := zKB w (duo (.bool n) (.slice a xs.length c)) (duo (.bool m) (.slice b ys.length d)) zbox;rw [hW0] at b0 sz0;have p0 : Duo W0 (w.heap.size) (.bool n) (.slice a xs.length c) := by rw [← hW0];exact zAA (zAA (zCA (by simp)) _) _
 have p1 : Duo W0 (w.heap.size + 1) (.bool m) (.slice b ys.length d) := by rw [← hW0];exact zAA (zCA (by simp)) _
 have pR : Duo W0 (w.heap.size + 1 + 1) (.bool false) (.slice none 0 0) := by rw [← hW0];exact zCA (by simp)
 have HKB : Hid (∀ w',Below W0.heap.size W0 w' → w'.cell? ⟨w.heap.size,0,none⟩ = some (.bool n) ∧ w'.cell? ⟨w.heap.size,1,none⟩ = some (.slice a xs.length c) ∧ w'.cell? ⟨w.heap.size + 1,0,none⟩ = some (.bool m) ∧ w'.cell? ⟨w.heap.size + 1,1,none⟩ = some (.slice b ys.length d)) := fun w' h => ⟨(p0.below h (by omega)).c0,(p0.below h (by omega)).c1,(p1.below h (by omega)).c0,(p1.below h (by omega)).c1⟩
 have HKR : Hid (∀ w',Below W0.heap.size W0 w' → Duo w' (w.heap.size + 1 + 1) (.bool false) (.slice none 0 0)) := fun w' h => pR.below h (by omega)
 obtain ⟨i0,i1,i2,i3⟩ := HKB.out W0 (Below.refl _ _);have EW := hid hW0;have B0 := hid b0;have HC := hid (zrC (w := W0) (v := .agg #[.bool n,.slice a xs.length c]) (u := .agg #[.bool m,.slice b ys.length d]) ⟨n,xs,a,c,rfl,s0.now b0,rfl,k0⟩ ⟨m,ys,b,d,rfl,s1.now b0,rfl,k1⟩);rw [← zbC s0.1 rfl,← zbC s1.1 rfl] at HC;have hcmp := zAC hge;generalize cmpI (val xs) (val ys) = C at *;have HL : Hid (∀ w',Below w.heap.size w w' → _) := fun w' h => zxI (s1.now h) (s0.now h) (Int.le_of_lt hge)
 have HV : Hid (∀ zs,val zs = val ys - val xs → iv m zs = iv n xs + iv m ys) := fun zs e => by
  cases n <;> cases m <;> simp [iv,e] at hnm ⊢ <;> omega
 have HF : Hid (∀ w',Below W0.heap.size W0 w' → Duo w' w.heap.size (.bool n) (.slice a xs.length c) ∧ Duo w' (w.heap.size + 1) (.bool m) (.slice b ys.length d)) := fun w' h => ⟨p0.below h (by omega),p1.below h (by omega)⟩
 clear s0 s1 p0 p1 pR hW0 b0 hnm hge;go_enter Tryz.func46,Tryz.ntmps46;go_wp2_with fail;rw [EW.out];refine HC.out.mono ?_;rintro e w1 ⟨rfl,b1⟩;have HP1 := hid b1;obtain ⟨d0,d1⟩ := HF.out w1 b1;have c10 := d0.c0;have c11 := d0.c1;have c12 := d1.c0;have c13 := d1.c1;have g0 := d0.fz 0;have g1 := d0.fz 1;have g2 := d1.fz 0;have g3 := d1.fz 1;obtain ⟨WX,hWX⟩ : ∃ WX,(((w1.setCell ⟨w.heap.size,0,none⟩ (.bool m)).setCell ⟨w.heap.size,1,none⟩ (.slice b ys.length d)).setCell ⟨w.heap.size + 1,0,none⟩ (.bool n)).setCell ⟨w.heap.size + 1,1,none⟩ (.slice a xs.length c) = WX := ⟨_,rfl⟩
 have dX0 : Duo WX w.heap.size (.bool m) (.slice b ys.length d) := by rw [← hWX];exact ((d0.set _ _).ne (by omega)).ne (by omega)
 have dX1 : Duo WX (w.heap.size + 1) (.bool n) (.slice a xs.length c) := by rw [← hWX];exact ((d1.ne (by omega)).ne (by omega)).set _ _
 have dXR : Duo WX (w.heap.size + 1 + 1) (.bool false) (.slice none 0 0) := by rw [← hWX];exact ((((HKR.out w1 b1).ne (by omega)).ne (by omega)).ne (by omega)).ne (by omega)
 have BX : Below w.heap.size w WX := by
  rw [← hWX];exact ((((below_step B0.out b1).setCell (p := ⟨w.heap.size,0,none⟩) (Nat.le_refl _) _).setCell (p := ⟨w.heap.size,1,none⟩) (Nat.le_refl _) _).setCell (p := ⟨w.heap.size + 1,0,none⟩) (Nat.le_succ _) _).setCell (p := ⟨w.heap.size + 1,1,none⟩) (Nat.le_succ _) _
 have szX : W0.heap.size ≤ WX.heap.size := by
  have := b1.size;rw [← hWX]
  simpa using this
 have xL := hid (HL.out WX BX);have EX := hid hWX;have x0 := dX0.c0;have x1 := dX0.c1;have x2 := dX1.c0;have x3 := dX1.c1;have DX := hid (And.intro dX0 dXR);have BXW := hid BX;clear b1 HC i0 i1 i2 i3 d0 d1 hWX dX0 dX1 dXR BX HL;go_wp2_with fail;rw [EX.out];clear c10 c11 c12 c13 g0 g1 g2 g3;refine xL.out.mono ?_;rintro e w2 ⟨zs,az,cz,rfl,m1,q1,v1,l1,b2⟩;have HM := hid m1;have HP2 := hid b2;have y0 := (DX.out.1.below b2 (by omega)).c0;clear b2 m1 x0 x1 x2 x3 xL;go_wp2_with fail;refine (zbA _ m zs.length az cz HM.out.len).mono ?_;rintro e w3 ⟨rfl,b3⟩;have HB23 := hid b3;have HP3 := hid (below_step HP2.out HB23.out);have pR := DX.out.2.below HP3.out (by omega);have r0 := pR.c0;have r1 := pR.c1;have f0 := pR.fz 0;have f1 := pR.fz 1;have PR := hid pR;clear b3 pR y0;go_wp2;exact bodyPost_ret (zBB Tryz.results46 (PR.out.set _ _) _ (by rfl)) rfl (zYD (W0 := WX) HM.out q1 (HV.out zs v1) (by omega) HB23.out HP3.out BXW.out (by omega) (by omega))
theorem zWG {w : World} {v u : Value} {z y : Int} {k l : Nat} (h : Zi w v z k) (h' : Zi w u y l) (hk : k < 35184372088832) (hl : l < 35184372088832) :
  Calls Tryz.prog 46 #[v,u] w (zOA w (z + y) (max k l + 1)) := by
 obtain ⟨n,xs,a,c,rfl,s0,rfl,k0⟩ := h;obtain ⟨m,ys,b,d,rfl,s1,rfl,k1⟩ := h'
 by_cases hnm : n = m
 ·exact add_same s0 s1 k0 k1 hk hl hnm
 ·by_cases hge : val ys ≤ val xs
  ·exact add_diff s0 s1 k0 k1 hk hl hnm hge
  ·exact add_swap s0 s1 k0 k1 hk hl hnm (by omega)
theorem zRI {w : World} {v u : Value} {z y : Int} {k l : Nat} (h0 : Zi w v z k) (h1 : Zi w u y l) (hk : k < 35184372088832) (hl : l < 35184372088832) :
  Calls Tryz.prog 47 #[v,u] w (zOA w (z - y) (max k l + 1)) := by
 have hv := h0;have hu := h1;obtain ⟨n,xs,a,c,rfl,s0,z0,k0⟩ := h0;obtain ⟨m,ys,b,d,rfl,s1,z1,k1⟩ := h1;obtain ⟨W0,hW0⟩ : ∃ W0,((w.alloc (duo (.bool n) (.slice a xs.length c))).alloc (duo (.bool m) (.slice b ys.length d))).alloc zbox = W0 := ⟨_,rfl⟩
 obtain ⟨b0,sz0⟩ := zKB w (duo (.bool n) (.slice a xs.length c)) (duo (.bool m) (.slice b ys.length d)) zbox;rw [hW0] at b0 sz0;have p0 : Duo W0 (w.heap.size) (.bool n) (.slice a xs.length c) := by rw [← hW0];exact zAA (zAA (zCA (by simp)) _) _
 have p1 : Duo W0 (w.heap.size + 1) (.bool m) (.slice b ys.length d) := by rw [← hW0];exact zAA (zCA (by simp)) _
 have pR : Duo W0 (w.heap.size + 1 + 1) (.bool false) (.slice none 0 0) := by rw [← hW0];exact zCA (by simp)
 have HKB : Hid (∀ w',Below W0.heap.size W0 w' → w'.cell? ⟨w.heap.size,0,none⟩ = some (.bool n) ∧ w'.cell? ⟨w.heap.size,1,none⟩ = some (.slice a xs.length c) ∧ w'.cell? ⟨w.heap.size + 1,0,none⟩ = some (.bool m) ∧ w'.cell? ⟨w.heap.size + 1,1,none⟩ = some (.slice b ys.length d)) := fun w' h => ⟨(p0.below h (by omega)).c0,(p0.below h (by omega)).c1,(p1.below h (by omega)).c0,(p1.below h (by omega)).c1⟩
 have HKR : Hid (∀ w',Below W0.heap.size W0 w' → Duo w' (w.heap.size + 1 + 1) (.bool false) (.slice none 0 0)) := fun w' h => pR.below h (by omega)
 obtain ⟨i0,i1,i2,i3⟩ := HKB.out W0 (Below.refl _ _);have EW := hid hW0;have B0 := hid b0;have HA := hid (zWG (hv.now b0) (u := .agg #[.bool (!m),.slice b ys.length d]) (y := -y) ⟨!m,ys,b,d,rfl,s1.now b0,by rw [zLH,z1],k1⟩ hk hl);have ez : z + -y = z - y := by omega
 rw [ez] at HA;clear hv hu s0 s1 z0 z1 p0 p1 pR hW0 b0 ez;go_enter Tryz.func47,Tryz.ntmps47;go_wp2_with fail;rw [EW.out];refine HA.out.mono ?_;rintro e w1 ⟨r,rfl,hr,b1⟩;have HP1 := hid b1;have HR := hid hr;obtain ⟨nr,zs,az,cz,rfl,-,-,-,-,-⟩ := hr;have r0 := (HKR.out w1 b1).c0;have r1 := (HKR.out w1 b1).c1;have f0 := (HKR.out w1 b1).fz 0;have f1 := (HKR.out w1 b1).fz 1;clear b1 HA;go_wp2;exact bodyPost_ret (zBB Tryz.results47 ((HKR.out w1 HP1.out).set _ _) _ (by rfl)) rfl (zWB HR.out (below_step B0.out HP1.out) (by omega) (by omega))
theorem mulAdd_z {w : World} {v u x : Value} {z y s : Int} {k l j : Nat} (h0 : Zi w v z k) (h1 : Zi w u y l) (h2 : Zi w x s j) (hk : k + l < 35184372088832) (hj : j < 35184372088832) :
  Calls Tryz.prog 48 #[v,u,x] w (zOA w (z * y + s) (max (k + l) j + 1)) := by
 have hv := h0;have hu := h1;have hx := h2;obtain ⟨n,xs,a,c,rfl,s0,z0,k0⟩ := h0;obtain ⟨m,ys,b,d,rfl,s1,z1,k1⟩ := h1;obtain ⟨o,us,e,f,rfl,s2,z2,k2⟩ := h2;obtain ⟨W0,hW0⟩ : ∃ W0,(((w.alloc (duo (.bool n) (.slice a xs.length c))).alloc (duo (.bool m) (.slice b ys.length d))).alloc (duo (.bool o) (.slice e us.length f))).alloc zbox = W0 := ⟨_,rfl⟩
 obtain ⟨b0,sz0⟩ := zNB w (duo (.bool n) (.slice a xs.length c)) (duo (.bool m) (.slice b ys.length d)) (duo (.bool o) (.slice e us.length f)) zbox;rw [hW0] at b0 sz0;have p0 : Duo W0 (w.heap.size) (.bool n) (.slice a xs.length c) := by rw [← hW0];exact zAA (zAA (zAA (zCA (by simp)) _) _) _
 have p1 : Duo W0 (w.heap.size + 1) (.bool m) (.slice b ys.length d) := by rw [← hW0];exact zAA (zAA (zCA (by simp)) _) _
 have p2 : Duo W0 (w.heap.size + 1 + 1) (.bool o) (.slice e us.length f) := by rw [← hW0];exact zAA (zCA (by simp)) _
 have pR : Duo W0 (w.heap.size + 1 + 1 + 1) (.bool false) (.slice none 0 0) := by rw [← hW0];exact zCA (by simp)
 have HKB : Hid (∀ w',Below W0.heap.size W0 w' → w'.cell? ⟨w.heap.size,0,none⟩ = some (.bool n) ∧ w'.cell? ⟨w.heap.size,1,none⟩ = some (.slice a xs.length c) ∧ w'.cell? ⟨w.heap.size + 1,0,none⟩ = some (.bool m) ∧ w'.cell? ⟨w.heap.size + 1,1,none⟩ = some (.slice b ys.length d) ∧ w'.cell? ⟨w.heap.size + 1 + 1,0,none⟩ = some (.bool o) ∧ w'.cell? ⟨w.heap.size + 1 + 1,1,none⟩ = some (.slice e us.length f)) := fun w' h => ⟨(p0.below h (by omega)).c0,(p0.below h (by omega)).c1,(p1.below h (by omega)).c0,(p1.below h (by omega)).c1,(p2.below h (by omega)).c0,(p2.below h (by omega)).c1⟩
 have HKR : Hid (∀ w',Below W0.heap.size W0 w' → Duo w' (w.heap.size + 1 + 1 + 1) (.bool false) (.slice none 0 0)) := fun w' h => pR.below h (by omega)
 obtain ⟨i0,i1,i2,i3,i4,i5⟩ := HKB.out W0 (Below.refl _ _);have EW := hid hW0;have B0 := hid b0;have HL : Hid (∀ w',Below W0.heap.size W0 w' → _) := fun w' h => zVI ((hv.now b0).now h) ((hu.now b0).now h) (by omega)
 have HA : Hid (∀ w1 w' r,Below W0.heap.size W0 w1 → Zm W0.heap.size w1 r (z * y) (k + l) → Below w1.heap.size w1 w' → _) := fun w1 w' r h hr h' => zWG (hr.zi.now h') (((hx.now b0).now h).now h') hk hj
 clear hv hu hx s0 s1 s2 z0 z1 z2 p0 p1 p2 pR hW0 b0;go_enter Tryz.func48,Tryz.ntmps48;go_wp2_with fail;rw [EW.out];go_region_held3 (fun w' => w'.cell? ⟨w.heap.size,0,none⟩ = some (.bool n) ∧ w'.cell? ⟨w.heap.size,1,none⟩ = some (.slice a xs.length c) ∧ w'.cell? ⟨w.heap.size + 1,0,none⟩ = some (.bool m) ∧ w'.cell? ⟨w.heap.size + 1,1,none⟩ = some (.slice b ys.length d) ∧ w'.cell? ⟨w.heap.size + 1 + 1,0,none⟩ = some (.bool o) ∧ w'.cell? ⟨w.heap.size + 1 + 1,1,none⟩ = some (.slice e us.length f))
  (first
   | ((try dsimp only);refine ⟨?_,?_,?_,?_,?_,?_⟩ <;> with_reducible (repeat (refine zAF (by omega) ?_)) <;> with_reducible assumption)
   | (refine HKB.out _ ?_;repeat (first | with_reducible exact HP2.out | with_reducible exact HP1.out | with_reducible exact Below.refl _ _ | with_reducible apply Below.drew)))
  (first
   | (go_at_call 18;refine (HL.out _ ?_).mono ?_;(repeat (first | exact Below.refl _ _ | apply Below.drew));rintro e1 w1 ⟨r1,rfl,m1,b1⟩;have HP1 := hid (below_step (w0 := W0) (by repeat (first | exact Below.refl _ _ | apply Below.drew)) b1);obtain ⟨c10,c11,c12,c13,c14,c15⟩ := HKB.out w1 HP1.out;have HM := hid m1;obtain ⟨n1,t1,a1,q1,rfl,-,-,-,-,-⟩ := m1)
   | (go_at_call 46;refine (HA.out w1 _ _ HP1.out HM.out ?_).mono ?_;(repeat (first | exact Below.refl _ _ | apply Below.drew));rintro e2 w2 ⟨r2,rfl,m2,b2⟩;have HB12 : Hid (Below w1.heap.size w1 w2) := below_step (w0 := w1) (by repeat (first | exact Below.refl _ _ | apply Below.drew)) b2;have HP2 := hid (below_step HP1.out HB12.out);obtain ⟨c20,c21,c22,c23,c24,c25⟩ := HKB.out w2 HP2.out;have HM2 := hid m2;obtain ⟨n2,t2,a2,q2,rfl,-,-,-,-,-⟩ := m2;have y0 := (HKR.out w2 HP2.out).c0;have y1 := (HKR.out w2 HP2.out).c1;have f0 := (HKR.out w2 HP2.out).fz 0;have f1 := (HKR.out w2 HP2.out).fz 1))
 all_goals go_wp2
 all_goals exact bodyPost_ret (zBB Tryz.results48 ((HKR.out w2 HP2.out).set _ _) _ (by rfl)) rfl (zWB (HM2.out.mono HP1.out.size) (below_step B0.out HP2.out) (by omega) (by omega))
end Go.Proofs.YtkdobgbicnemcaaGreatDoor
