import Derived.Test.YtkdobgbicnemcaaGreatDoorQZEuclid
set_option maxRecDepth 100000
set_option maxHeartbeats 6400000
set_option linter.unusedVariables false
set_option linter.unusedSimpArgs false
namespace Go.Proofs.YtkdobgbicnemcaaGreatDoor
open Go.RowKit
theorem zxH {E : Int} {w : World} {v u : Value} {z y q r : Int} {k l kq kr : Nat} (h0 : Zi w v z k) (h1 : Zi w u y l) (H : ∀ w',Zi w' v z k → Zi w' u y l → Calls Tryz.prog 84 #[v,u] w' (zZA E w' q r kq kr)) :
  Calls Tryz.prog 86 #[v,u] w (zMA E w r kr) := by
 have hv := h0;have hu := h1;obtain ⟨n,xs,a,c,rfl,s0,z0,k0⟩ := h0;obtain ⟨m,ys,b,d,rfl,s1,z1,k1⟩ := h1;obtain ⟨W0,hW0⟩ : ∃ W0,((w.alloc (duo (.bool n) (.slice a xs.length c))).alloc (duo (.bool m) (.slice b ys.length d))).alloc zbox = W0 := ⟨_,rfl⟩
 obtain ⟨b0,sz0⟩ := zKB w (duo (.bool n) (.slice a xs.length c)) (duo (.bool m) (.slice b ys.length d)) zbox;rw [hW0] at b0 sz0;have p0 : Duo W0 (w.heap.size) (.bool n) (.slice a xs.length c) := by rw [← hW0];exact zAA (zAA (zCA (by simp)) _) _
 have p1 : Duo W0 (w.heap.size + 1) (.bool m) (.slice b ys.length d) := by rw [← hW0];exact zAA (zCA (by simp)) _
 have r0 : Duo W0 (w.heap.size + 1 + 1) (.bool false) (.slice none 0 0) := by rw [← hW0];exact zCA (by simp)
 have HKB : Hid (∀ w',Below W0.heap.size W0 w' → w'.cell? ⟨w.heap.size,0,none⟩ = some (.bool n) ∧ w'.cell? ⟨w.heap.size,1,none⟩ = some (.slice a xs.length c) ∧ w'.cell? ⟨w.heap.size + 1,0,none⟩ = some (.bool m) ∧ w'.cell? ⟨w.heap.size + 1,1,none⟩ = some (.slice b ys.length d)) := fun w' h => ⟨(p0.below h (by omega)).c0,(p0.below h (by omega)).c1,(p1.below h (by omega)).c0,(p1.below h (by omega)).c1⟩
 have HKR : Hid (∀ w',Below W0.heap.size W0 w' → Duo w' (w.heap.size + 1 + 1) (.bool false) (.slice none 0 0)) := fun w' h => r0.below h (by omega)
 obtain ⟨i0,i1,i2,i3⟩ := HKB.out W0 (Below.refl _ _);have EW := hid hW0;have B0 := hid b0;have HD := hid (H W0 (hv.now b0) (hu.now b0));clear hv hu s0 s1 z0 z1 p0 p1 r0 hW0 b0 H;go_enter Tryz.func86,Tryz.ntmps86;go_wp2_with fail;rw [EW.out];refine HD.out.mono ?_;rintro e w1 ⟨rq,rr,rfl,mq,mr,b1⟩;obtain ⟨nq,xq,aq,cq,rfl,-,-,-,-,-⟩ := mq;obtain ⟨nr,xr,ar,cr,rfl,-,-,-,-,-⟩ := id mr;obtain ⟨W1,hW1⟩ : ∃ W1,(w1.alloc (duo (.bool nq) (.slice aq xq.length cq))).alloc (duo (.bool nr) (.slice ar xr.length cr)) = W1 := ⟨_,rfl⟩
 obtain ⟨k1,sz1⟩ := zXA w1 (duo (.bool nq) (.slice aq xq.length cq)) (duo (.bool nr) (.slice ar xr.length cr));rw [hW1] at k1 sz1;have le1 := b1.size;have RR := hid (HKR.out W1 (below_step b1 k1));have y0 := RR.out.c0;have y1 := RR.out.c1;have f0 := RR.out.fz 0;have f1 := RR.out.fz 1;rw [← hW1] at y0 y1 f0 f1;have ZR := hid (mr.now k1);have EW1 := hid hW1;have B1 := hid (below_step B0.out (below_step b1 k1));clear mr b1 k1 HD hW1 HKB HKR i0 i1 i2 i3 EW;go_wp2;rw [EW1.out];exact bodyPost_ret (zWA Tryz.results86 (RR.out.set _ _) _ (by rfl) (by rfl)) rfl (zrA (B := W0.heap.size) ZR.out B1.out (by omega) (by omega))
theorem znH {E : Int} {w : World} {v u : Value} {z y r : Int} {k l kr : Nat} (h0 : Zi w v z k) (h1 : Zi w u y l) (H : ∀ w',Zi w' v z k → Zi w' u y l → Calls Tryz.prog 86 #[v,u] w' (zMA E w' r kr)) (hkr : kr < 35184372088832) (hl : l < 35184372088832) (hs : ¬ (y.natAbs : Int) < ((r + r).natAbs : Int)) :
  Calls Tryz.prog 87 #[v,u] w (zMA E w (r) (max kr l + 1)) := by
 have hv := h0;have hu := h1;obtain ⟨n,xs,a,c,rfl,s0,z0,k0⟩ := h0;obtain ⟨m,ys,b,d,rfl,s1,z1,k1⟩ := h1;obtain ⟨W0,hW0⟩ : ∃ W0,((w.alloc (duo (.bool n) (.slice a xs.length c))).alloc (duo (.bool m) (.slice b ys.length d))).alloc zbox = W0 := ⟨_,rfl⟩
 obtain ⟨b0,sz0⟩ := zKB w (duo (.bool n) (.slice a xs.length c)) (duo (.bool m) (.slice b ys.length d)) zbox;rw [hW0] at b0 sz0;have p0 : Duo W0 (w.heap.size) (.bool n) (.slice a xs.length c) := by rw [← hW0];exact zAA (zAA (zCA (by simp)) _) _
 have p1 : Duo W0 (w.heap.size + 1) (.bool m) (.slice b ys.length d) := by rw [← hW0];exact zAA (zCA (by simp)) _
 have r0 : Duo W0 (w.heap.size + 1 + 1) (.bool false) (.slice none 0 0) := by rw [← hW0];exact zCA (by simp)
 have HKB : Hid (∀ w',Below W0.heap.size W0 w' → w'.cell? ⟨w.heap.size,0,none⟩ = some (.bool n) ∧ w'.cell? ⟨w.heap.size,1,none⟩ = some (.slice a xs.length c) ∧ w'.cell? ⟨w.heap.size + 1,0,none⟩ = some (.bool m) ∧ w'.cell? ⟨w.heap.size + 1,1,none⟩ = some (.slice b ys.length d)) := fun w' h => ⟨(p0.below h (by omega)).c0,(p0.below h (by omega)).c1,(p1.below h (by omega)).c0,(p1.below h (by omega)).c1⟩
 have HKR : Hid (∀ w',Below W0.heap.size W0 w' → Duo w' (w.heap.size + 1 + 1) (.bool false) (.slice none 0 0)) := fun w' h => r0.below h (by omega)
 obtain ⟨i0,i1,i2,i3⟩ := HKB.out W0 (Below.refl _ _);have EW := hid hW0;have B0 := hid b0;have HD := hid (H W0 (hv.now b0) (hu.now b0));have hu0 := hid (hu.now b0);have HC : Hid (∀ (w' : World) (v' u' : Value) (k' l' : Nat),Zi w' v' (r + r) k' → Zi w' u' y l' → _) := fun w' v' u' k' l' h h' => zrC h h'
 have hcmp : ¬ 0 < cmpI ((r + r).natAbs : Int) (y.natAbs : Int) := by unfold cmpI;split <;> omega
 generalize cmpI ((r + r).natAbs : Int) (y.natAbs : Int) = C at *;clear hv hu s0 s1 z0 z1 p0 p1 r0 hW0 b0 H hs;go_enter Tryz.func87,Tryz.ntmps87;go_wp2_with fail;rw [EW.out];refine HD.out.mono ?_;rintro e w1 ⟨rr,rfl,mr,b1⟩;obtain ⟨nr,xr,ar,cr,rfl,-,-,-,-,-⟩ := id mr;obtain ⟨W1,hW1⟩ : ∃ W1,w1.alloc (duo (.bool nr) (.slice ar xr.length cr)) = W1 := ⟨_,rfl⟩
 have k1 : Below w1.heap.size w1 W1 := by rw [← hW1];exact (Below.refl _ _).alloc (Nat.le_refl _) _
 have sz1 : W1.heap.size = w1.heap.size + 1 := by rw [← hW1];simp
 have le1 := b1.size;have dr : Duo W1 w1.heap.size (.bool nr) (.slice ar xr.length cr) := by rw [← hW1];exact Duo.new w1 _ _
 have HP1 := hid (below_step b1 k1);have ZR := hid (mr.now k1);have ZB := hid (hu0.out.now HP1.out);have HKC : Hid (∀ w',Below W1.heap.size W1 w' → (w'.cell? ⟨w.heap.size + 1,0,none⟩ = some (.bool m) ∧ w'.cell? ⟨w.heap.size + 1,1,none⟩ = some (.slice b ys.length d) ∧ w'.cell? ⟨w1.heap.size,0,none⟩ = some (.bool nr) ∧ w'.cell? ⟨w1.heap.size,1,none⟩ = some (.slice ar xr.length cr)) ∧ Duo w' w1.heap.size (.bool nr) (.slice ar xr.length cr) ∧ Duo w' (w.heap.size + 1 + 1) (.bool false) (.slice none 0 0)) := fun w' h => by
  have h0 := below_step HP1.out h;obtain ⟨_,_,j2,j3⟩ := HKB.out w' h0;have d1 := dr.below h (by omega);exact ⟨⟨j2,j3,d1.c0,d1.c1⟩,d1,HKR.out w' h0⟩
 obtain ⟨⟨t0,t1,t2,t3⟩,-⟩ := HKC.out W1 (Below.refl _ _);rw [← hW1] at t0 t1 t2 t3;have EW1 := hid hW1;have B1 := hid (below_step B0.out HP1.out);clear mr b1 k1 HD dr hW1 HKB HKR i0 i1 i2 i3 hu0 EW;go_wp2_with fail;rw [EW1.out];clear t0 t1 t2 t3;obtain ⟨⟨t0,t1,t2,t3⟩,-⟩ := HKC.out W1 (Below.refl _ _);go_region_held3 (fun w' => w'.cell? ⟨w.heap.size + 1,0,none⟩ = some (.bool m) ∧ w'.cell? ⟨w.heap.size + 1,1,none⟩ = some (.slice b ys.length d) ∧ w'.cell? ⟨w1.heap.size,0,none⟩ = some (.bool nr) ∧ w'.cell? ⟨w1.heap.size,1,none⟩ = some (.slice ar xr.length cr))
  (first
   | ((try dsimp only);refine ⟨?_,?_,?_,?_⟩ <;> with_reducible assumption)
   | (refine (HKC.out _ ?_).1;repeat (first | with_reducible exact HP3.out | with_reducible exact HP2.out | with_reducible exact Below.refl _ _ | with_reducible apply Below.drew)))
  (first
   | (have _ := HP2;go_at_call 43;refine (HC.out _ _ _ _ _ (ZS.out.zi.now ?_) (ZB2.out.now ?_)).mono ?_;(repeat (first | exact Below.refl _ _ | apply Below.drew));(repeat (first | exact Below.refl _ _ | apply Below.drew));rintro e3 w3 ⟨rfl,b3⟩;have HP3 : Hid (Below W1.heap.size W1 w3) := below_step HP2.out (below_step (w0 := w2) (by repeat (first | exact Below.refl _ _ | apply Below.drew)) b3);obtain ⟨⟨c30,c31,c32,c33⟩,-⟩ := HKC.out w3 HP3.out)
   | (go_at_call 46;refine (zWG (ZR.out.zi.now ?_) (ZR.out.zi.now ?_) hkr hkr).mono ?_;(repeat (first | exact Below.refl _ _ | apply Below.drew));(repeat (first | exact Below.refl _ _ | apply Below.drew));rintro e2 w2 ⟨r2,rfl,m2,b2⟩;have HP2 : Hid (Below W1.heap.size W1 w2) := below_step (w0 := W1) (by repeat (first | exact Below.refl _ _ | apply Below.drew)) b2;have ZS := hid m2;have ZB2 := hid (ZB.out.now HP2.out);obtain ⟨n2,x2,a2,q2,rfl,-,-,-,-,-⟩ := m2;obtain ⟨⟨c20,c21,c22,c23⟩,-⟩ := HKC.out w2 HP2.out))
 clear t0 t1 t2 t3 c20 c21 c22 c23 c30 c31 c32 c33;obtain ⟨⟨c30,c31,c32,c33⟩,-,hR⟩ := HKC.out w3 HP3.out;have RR := hid hR;have y0 := hR.c0;have y1 := hR.c1;have f0 := hR.fz 0;have f1 := hR.fz 1;clear hR;go_wp2;exact bodyPost_ret (zWA Tryz.results87 (RR.out.set _ _) _ (by rfl) (by rfl)) rfl (zrA (B := W0.heap.size) ((ZR.out.now HP3.out).more (by omega)) (below_step B1.out HP3.out) (by omega) (by omega))
theorem sym_big {E : Int} {w : World} {v u : Value} {z y r : Int} {k l kr : Nat} (h0 : Zi w v z k) (h1 : Zi w u y l) (H : ∀ w',Zi w' v z k → Zi w' u y l → Calls Tryz.prog 86 #[v,u] w' (zMA E w' r kr)) (hkr : kr < 35184372088832) (hl : l < 35184372088832) (hs : (y.natAbs : Int) < ((r + r).natAbs : Int)) :
  Calls Tryz.prog 87 #[v,u] w (zMA E w (r - (y.natAbs : Int)) (max kr l + 1)) := by
 have hv := h0;have hu := h1;obtain ⟨n,xs,a,c,rfl,s0,z0,k0⟩ := h0;obtain ⟨m,ys,b,d,rfl,s1,z1,k1⟩ := h1;obtain ⟨W0,hW0⟩ : ∃ W0,((w.alloc (duo (.bool n) (.slice a xs.length c))).alloc (duo (.bool m) (.slice b ys.length d))).alloc zbox = W0 := ⟨_,rfl⟩
 obtain ⟨b0,sz0⟩ := zKB w (duo (.bool n) (.slice a xs.length c)) (duo (.bool m) (.slice b ys.length d)) zbox;rw [hW0] at b0 sz0;have p0 : Duo W0 (w.heap.size) (.bool n) (.slice a xs.length c) := by rw [← hW0];exact zAA (zAA (zCA (by simp)) _) _
 have p1 : Duo W0 (w.heap.size + 1) (.bool m) (.slice b ys.length d) := by rw [← hW0];exact zAA (zCA (by simp)) _
 have r0 : Duo W0 (w.heap.size + 1 + 1) (.bool false) (.slice none 0 0) := by rw [← hW0];exact zCA (by simp)
 have HKB : Hid (∀ w',Below W0.heap.size W0 w' → w'.cell? ⟨w.heap.size,0,none⟩ = some (.bool n) ∧ w'.cell? ⟨w.heap.size,1,none⟩ = some (.slice a xs.length c) ∧ w'.cell? ⟨w.heap.size + 1,0,none⟩ = some (.bool m) ∧ w'.cell? ⟨w.heap.size + 1,1,none⟩ = some (.slice b ys.length d)) := fun w' h => ⟨(p0.below h (by omega)).c0,(p0.below h (by omega)).c1,(p1.below h (by omega)).c0,(p1.below h (by omega)).c1⟩
 have HKR : Hid (∀ w',Below W0.heap.size W0 w' → Duo w' (w.heap.size + 1 + 1) (.bool false) (.slice none 0 0)) := fun w' h => r0.below h (by omega)
 obtain ⟨i0,i1,i2,i3⟩ := HKB.out W0 (Below.refl _ _);have EW := hid hW0;have B0 := hid b0;have HD := hid (H W0 (hv.now b0) (hu.now b0));have hu0 := hid (hu.now b0);have HC : Hid (∀ (w' : World) (v' u' : Value) (k' l' : Nat),Zi w' v' (r + r) k' → Zi w' u' y l' → _) := fun w' v' u' k' l' h h' => zrC h h'
 have hcmp : 0 < cmpI ((r + r).natAbs : Int) (y.natAbs : Int) := by rw [ziA hs];omega
 generalize cmpI ((r + r).natAbs : Int) (y.natAbs : Int) = C at *;clear hv hu s0 s1 z0 z1 p0 p1 r0 hW0 b0 H hs;go_enter Tryz.func87,Tryz.ntmps87;go_wp2_with fail;rw [EW.out];refine HD.out.mono ?_;rintro e w1 ⟨rr,rfl,mr,b1⟩;obtain ⟨nr,xr,ar,cr,rfl,-,-,-,-,-⟩ := id mr;obtain ⟨W1,hW1⟩ : ∃ W1,w1.alloc (duo (.bool nr) (.slice ar xr.length cr)) = W1 := ⟨_,rfl⟩
 have k1 : Below w1.heap.size w1 W1 := by rw [← hW1];exact (Below.refl _ _).alloc (Nat.le_refl _) _
 have sz1 : W1.heap.size = w1.heap.size + 1 := by rw [← hW1];simp
 have le1 := b1.size;have dr : Duo W1 w1.heap.size (.bool nr) (.slice ar xr.length cr) := by rw [← hW1];exact Duo.new w1 _ _
 have HP1 := hid (below_step b1 k1);have ZR := hid (mr.now k1);have ZB := hid (hu0.out.now HP1.out);have HKC : Hid (∀ w',Below W1.heap.size W1 w' → (w'.cell? ⟨w.heap.size + 1,0,none⟩ = some (.bool m) ∧ w'.cell? ⟨w.heap.size + 1,1,none⟩ = some (.slice b ys.length d) ∧ w'.cell? ⟨w1.heap.size,0,none⟩ = some (.bool nr) ∧ w'.cell? ⟨w1.heap.size,1,none⟩ = some (.slice ar xr.length cr)) ∧ Duo w' w1.heap.size (.bool nr) (.slice ar xr.length cr) ∧ Duo w' (w.heap.size + 1 + 1) (.bool false) (.slice none 0 0)) := fun w' h => by
  have h0 := below_step HP1.out h;obtain ⟨_,_,j2,j3⟩ := HKB.out w' h0;have d1 := dr.below h (by omega);exact ⟨⟨j2,j3,d1.c0,d1.c1⟩,d1,HKR.out w' h0⟩
 obtain ⟨⟨t0,t1,t2,t3⟩,-⟩ := HKC.out W1 (Below.refl _ _);rw [← hW1] at t0 t1 t2 t3;have EW1 := hid hW1;have B1 := hid (below_step B0.out HP1.out);clear mr b1 k1 HD dr hW1 HKB HKR i0 i1 i2 i3 hu0 EW;go_wp2_with fail;rw [EW1.out];clear t0 t1 t2 t3;obtain ⟨⟨t0,t1,t2,t3⟩,-⟩ := HKC.out W1 (Below.refl _ _);go_region_held3 (fun w' => w'.cell? ⟨w.heap.size + 1,0,none⟩ = some (.bool m) ∧ w'.cell? ⟨w.heap.size + 1,1,none⟩ = some (.slice b ys.length d) ∧ w'.cell? ⟨w1.heap.size,0,none⟩ = some (.bool nr) ∧ w'.cell? ⟨w1.heap.size,1,none⟩ = some (.slice ar xr.length cr))
  (first
   | ((try dsimp only);refine ⟨?_,?_,?_,?_⟩ <;> with_reducible assumption)
   | (refine (HKC.out _ ?_).1;repeat (first | with_reducible exact HP3.out | with_reducible exact HP2.out | with_reducible exact Below.refl _ _ | with_reducible apply Below.drew)))
  (first
   | (have _ := HP2;go_at_call 43;refine (HC.out _ _ _ _ _ (ZS.out.zi.now ?_) (ZB2.out.now ?_)).mono ?_;(repeat (first | exact Below.refl _ _ | apply Below.drew));(repeat (first | exact Below.refl _ _ | apply Below.drew));rintro e3 w3 ⟨rfl,b3⟩;have HP3 : Hid (Below W1.heap.size W1 w3) := below_step HP2.out (below_step (w0 := w2) (by repeat (first | exact Below.refl _ _ | apply Below.drew)) b3);obtain ⟨⟨c30,c31,c32,c33⟩,-⟩ := HKC.out w3 HP3.out)
   | (go_at_call 46;refine (zWG (ZR.out.zi.now ?_) (ZR.out.zi.now ?_) hkr hkr).mono ?_;(repeat (first | exact Below.refl _ _ | apply Below.drew));(repeat (first | exact Below.refl _ _ | apply Below.drew));rintro e2 w2 ⟨r2,rfl,m2,b2⟩;have HP2 : Hid (Below W1.heap.size W1 w2) := below_step (w0 := W1) (by repeat (first | exact Below.refl _ _ | apply Below.drew)) b2;have ZS := hid m2;have ZB2 := hid (ZB.out.now HP2.out);obtain ⟨n2,x2,a2,q2,rfl,-,-,-,-,-⟩ := m2;obtain ⟨⟨c20,c21,c22,c23⟩,-⟩ := HKC.out w2 HP2.out))
 clear t0 t1 t2 t3 c20 c21 c22 c23 c30 c31 c32 c33;have HKS : Hid (∀ w',Below w3.heap.size w3 w' → w'.cell? ⟨w.heap.size + 1,0,none⟩ = some (.bool m) ∧ w'.cell? ⟨w.heap.size + 1,1,none⟩ = some (.slice b ys.length d) ∧ w'.cell? ⟨w1.heap.size,0,none⟩ = some (.bool nr) ∧ w'.cell? ⟨w1.heap.size,1,none⟩ = some (.slice ar xr.length cr)) := fun w' h => (HKC.out w' (below_step HP3.out h)).1
 replace ZR := hid (ZR.out.now HP3.out);replace ZB := hid (ZB.out.now HP3.out);have le3 := HP3.out.size;go_wp2_with fail;refine zFA (fun w' => w'.cell? ⟨w.heap.size + 1,0,none⟩ = some (.bool m) ∧ w'.cell? ⟨w.heap.size + 1,1,none⟩ = some (.slice b ys.length d) ∧ w'.cell? ⟨w1.heap.size,0,none⟩ = some (.bool nr) ∧ w'.cell? ⟨w1.heap.size,1,none⟩ = some (.slice ar xr.length cr)) 4 (by kernel_rfl) ?_;refine zBA (i := 0) (oi := ⟨some 20,.load 26 (.tmp 6),26, "divide.go:56",#[],none⟩) (v := .agg #[.bool nr,.slice ar xr.length cr]) rfl (by kernel_rfl) (fun _ _ _ h => h) (Or.inl ⟨by rfl,?_⟩) (HKS.out _ (Below.refl _ _).drew) ?_
 ·intro w hSw;(try dsimp only at hSw);go_simp
 simp only [Act.put,sIb,sC0,sC1];refine zBA (i := 1) (oi := ⟨some 21,.load 26 (.tmp 3),26, "divide.go:56",#[],none⟩) (v := .agg #[.bool m,.slice b ys.length d]) rfl (by kernel_rfl) (fun _ _ _ h => h) (Or.inl ⟨by rfl,?_⟩) (HKS.out _ (Below.refl _ _).drew) ?_
 ·intro w hSw;(try dsimp only at hSw);go_simp
 simp only [Act.put,sIb,sC0,sC1];refine zDA (i := 2) (o := ⟨some 22,.call { callee := .value (.func 45),args := #[.tmp 21],argTypes := #[26] },26, "divide.go:56",#[⟨1,.data⟩],none⟩) (by kernel_rfl) rfl (fun K hK => ?_);go_simp;go_at_call 45;refine (zqI (ZB.out.now (by repeat (first | exact Below.refl _ _ | apply Below.drew)))).mono ?_;rintro e4 w4 ⟨r4,rfl,m4,b4⟩;have HB4 : Hid (Below w3.heap.size w3 w4) := below_step (w0 := w3) (by repeat (first | exact Below.refl _ _ | apply Below.drew)) b4;have HP4 : Hid (Below w3.heap.size w3 w4) := HB4.out;have ZA := hid m4;obtain ⟨n4,x4,a4,q4,rfl,-,-,-,-,-⟩ := m4;replace ZR := hid (ZR.out.now HB4.out);refine hK.out _ _ (fun _ => HKS.out w4 HP4.out) ?_;clear hK b4;refine zDA (i := 3) (o := ⟨some 23,.call { callee := .value (.func 47),args := #[.tmp 20,.tmp 22],argTypes := #[26,26] },26, "divide.go:56",#[⟨0,.data⟩,⟨2,.data⟩,⟨2,.chain⟩],none⟩) (by kernel_rfl) rfl (fun K hK => ?_);go_simp;go_at_call 47;refine (zRI ZR.out.zi ZA.out.zi hkr hl).mono ?_;rintro e5 w5 ⟨r5,rfl,m5,b5⟩;have HB5 : Hid (Below w4.heap.size w4 w5) := below_step (w0 := w4) (by repeat (first | exact Below.refl _ _ | apply Below.drew)) b5;have HP5 : Hid (Below w3.heap.size w3 w5) := below_step HP4.out HB5.out;have ZV := hid m5;obtain ⟨n5,x5,a5,q5,rfl,-,-,-,-,-⟩ := m5;obtain ⟨-,dr6,rr6⟩ := HKC.out w5 (below_step HP3.out HP5.out);have c64 := dr6.c0;have c65 := dr6.c1;have g64 := dr6.fz 0;have g65 := dr6.fz 1;have DD := hid (And.intro dr6 rr6);refine hK.out _ _ (fun _ => HKS.out w5 HP5.out) ?_;clear hK b5 dr6 rr6;refine zDA (i := 4) (o := ⟨none,.store 26 (.tmp 6) (.tmp 23),0, "divide.go:56",#[⟨3,.data⟩,⟨3,.chain⟩,⟨0,.phase⟩,⟨1,.phase⟩,⟨2,.phase⟩,⟨3,.phase⟩],none⟩) (by kernel_rfl) rfl (fun K hK => ?_);go_simp;refine hK.out _ _ (fun h => absurd h (by decide)) ?_;clear hK
 try simp only [Act.put]
 refine zIA (by kernel_rfl) ?_ _;have le4 := HB4.out.size;have le5 := HB5.out.size;obtain ⟨WX,hWX⟩ : ∃ WX,(w5.setCell ⟨w1.heap.size,0,none⟩ (.bool n5)).setCell ⟨w1.heap.size,1,none⟩ (.slice a5 x5.length q5) = WX := ⟨_,rfl⟩
 have dX0 : Duo WX w1.heap.size (.bool n5) (.slice a5 x5.length q5) := by rw [← hWX];exact DD.out.1.set _ _
 have RR : Hid (Duo WX (w.heap.size + 1 + 1) (.bool false) (.slice none 0 0)) := by unfold Hid;rw [← hWX];exact (DD.out.2.ne (by omega)).ne (by omega)
 have e0 := dX0.c0;have e1 := dX0.c1;have y0 := RR.out.c0;have y1 := RR.out.c1;have f0 := RR.out.fz 0;have f1 := RR.out.fz 1;have ZVX : Hid (Zm (w1.heap.size + 1) WX (.agg #[.bool n5,.slice a5 x5.length q5]) (r - (y.natAbs : Int)) (max kr l + 1)) := by
  unfold Hid;rw [← hWX];exact ((ZV.out.mono (by omega)).setLow (by omega) 0 _).setLow (by omega) 1 _
 have BX : Hid (Below w.heap.size w WX) := by
  unfold Hid;rw [← hWX];exact bset (bset (below_step (below_step B1.out HP3.out) HP5.out) (by omega)) (by omega)
 have EX := hid hWX;rw [hWX];clear dX0 hWX;go_wp2;exact bodyPost_ret (zWA Tryz.results87 (RR.out.set _ _) _ (by rfl) (by rfl)) rfl (zrA (B := w1.heap.size + 1) ZVX.out BX.out (by omega) (by omega))
theorem zPB {z y : Int} (hy : y ≠ 0) : (z.tmod y < 0 → z.tmod y + (y.natAbs : Int) = z % y) ∧ (¬ z.tmod y < 0 → z.tmod y = z % y) := by
 have h1 := Int.tmod_eq_emod (a := z) (b := y);have h2 := Int.emod_nonneg z hy;have h3 : z % y < (y.natAbs : Int) := by
  by_cases h : 0 < y
  ·have := Int.emod_lt_of_pos z h
   omega
  ·have := Int.emod_lt_of_pos z (b := -y) (by omega)
   rw [Int.emod_neg] at this;omega
 split at h1 <;> constructor <;> intro h <;> omega
theorem znI {w : World} {v u : Value} {z y : Int} {k l : Nat} (h0 : Zi w v z k) (h1 : Zi w u y l) (hy : y ≠ 0) (hk : k ≤ 1099511627776) (hl : l ≤ 1099511627776) :
  Calls Tryz.prog 86 #[v,u] w (zMA 0 w (z % y) (max k l + 1)) := by
 by_cases hs : z.tmod y < 0
 ·rw [← (zPB hy).1 hs]
  exact zxH h0 h1 fun w' h h' => zaF h h' hy hk hl (zAC hs)
 ·rw [← (zPB hy).2 hs]
  refine (zxH h0 h1 fun w' h h' => zZF h h' hy hk hl (zxA (by omega))).mono fun e w' ⟨r,q1,q2,q3⟩ => ⟨r,q1,q2.more (by omega),q3⟩
theorem zHH {w : World} {v u : Value} {z y : Int} {k l : Nat} (h0 : Zi w v z k) (h1 : Zi w u y l) (hy : y = 0) :
  Calls Tryz.prog 86 #[v,u] w (zMA 4 w 0 k) := zxH h0 h1 fun w' h h' => zqE h h' hy
def symv (z y : Int) : Int := if (y.natAbs : Int) < ((z % y + z % y).natAbs : Int) then z % y - (y.natAbs : Int) else z % y
theorem sym_z {w : World} {v u : Value} {z y : Int} {k l : Nat} (h0 : Zi w v z k) (h1 : Zi w u y l) (hy : y ≠ 0) (hk : k ≤ 1099511627776) (hl : l ≤ 1099511627776) :
  Calls Tryz.prog 87 #[v,u] w (zMA 0 w (symv z y) (max (max k l + 1) l + 1)) := by
 unfold symv
 split
 ·rename_i hs
  exact sym_big h0 h1 (fun w' h h' => znI h h' hy hk hl) (by omega) (by omega) hs
 ·rename_i hs
  exact znH h0 h1 (fun w' h h' => znI h h' hy hk hl) (by omega) (by omega) hs
theorem sym_none {w : World} {v u : Value} {z y : Int} {k l : Nat} (h0 : Zi w v z k) (h1 : Zi w u y l) (hy : y = 0) (hk : k ≤ 1099511627776) (hl : l ≤ 1099511627776) :
  Calls Tryz.prog 87 #[v,u] w (zMA 4 w 0 (max k l + 1)) :=
 znH h0 h1 (fun w' h h' => zHH h h' hy) (by omega) (by omega) (by subst hy;simp)
end Go.Proofs.YtkdobgbicnemcaaGreatDoor
