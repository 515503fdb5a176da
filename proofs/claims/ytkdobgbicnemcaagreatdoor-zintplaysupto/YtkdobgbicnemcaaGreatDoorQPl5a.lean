import Derived.Test.YtkdobgbicnemcaaGreatDoorQPl5
set_option maxRecDepth 100000
set_option maxHeartbeats 6400000
set_option linter.unusedVariables false
set_option linter.unusedSimpArgs false
namespace Go.Proofs.YtkdobgbicnemcaaGreatDoor
open Go.RowKit
theorem zeA {W : World} {b : Nat} {y0 y1 y2 y3 y4 y5 y6 y7 y8 x0 x1 x2 x3 x4 x5 x6 x7 x8 : Value} (r0 : W.cell? ⟨b,0,none⟩ = some y0) (r1 : W.cell? ⟨b,1,none⟩ = some y1) (r2 : W.cell? ⟨b,2,none⟩ = some y2) (r3 : W.cell? ⟨b,3,none⟩ = some y3) (r4 : W.cell? ⟨b,4,none⟩ = some y4) (r5 : W.cell? ⟨b,5,none⟩ = some y5) (r6 : W.cell? ⟨b,6,none⟩ = some y6) (r7 : W.cell? ⟨b,7,none⟩ = some y7) (r8 : W.cell? ⟨b,8,none⟩ = some y8)
  (tmps : Array Value) (ht : tmps[2]? = some (.pointer (some ⟨b,0,none⟩))) :
  (results Tryz.f8 tmps).run Tryz.prog ((((((((((W.setCell ⟨b,0,none⟩ x0).setCell ⟨b,1,none⟩ x1).setCell ⟨b,2,none⟩ x2).setCell ⟨b,3,none⟩ x3).setCell ⟨b,4,none⟩ x4).setCell ⟨b,5,none⟩ x5).setCell ⟨b,6,none⟩ x6).setCell ⟨b,7,none⟩ x7).setCell ⟨b,8,none⟩ x8)) = .ok (.agg #[x0,x1,x2,x3,x4,x5,x6,x7,x8]) ((((((((((W.setCell ⟨b,0,none⟩ x0).setCell ⟨b,1,none⟩ x1).setCell ⟨b,2,none⟩ x2).setCell ⟨b,3,none⟩ x3).setCell ⟨b,4,none⟩ x4).setCell ⟨b,5,none⟩ x5).setCell ⟨b,6,none⟩ x6).setCell ⟨b,7,none⟩ x7).setCell ⟨b,8,none⟩ x8)) := by
 simp [results,Tryz.results8,go_sem,ht,r0,r1,r2,r3,r4,r5,r6,r7,r8]
theorem asked_back0 {W : World} {b : Nat} {x0 x1 x2 x3 x4 x5 x6 x7 x8 : Value} (r0 : W.cell? ⟨b,0,none⟩ = some x0) (r1 : W.cell? ⟨b,1,none⟩ = some x1) (r2 : W.cell? ⟨b,2,none⟩ = some x2) (r3 : W.cell? ⟨b,3,none⟩ = some x3) (r4 : W.cell? ⟨b,4,none⟩ = some x4) (r5 : W.cell? ⟨b,5,none⟩ = some x5) (r6 : W.cell? ⟨b,6,none⟩ = some x6) (r7 : W.cell? ⟨b,7,none⟩ = some x7) (r8 : W.cell? ⟨b,8,none⟩ = some x8)
  (tmps : Array Value) (ht : tmps[2]? = some (.pointer (some ⟨b,0,none⟩))) :
  (results Tryz.f8 tmps).run Tryz.prog W = .ok (.agg #[x0,x1,x2,x3,x4,x5,x6,x7,x8]) W := by
 simp [results,Tryz.results8,go_sem,ht,r0,r1,r2,r3,r4,r5,r6,r7,r8]
theorem zjA {W : World} {b : Nat} {y0 y1 y2 y3 y4 y5 y6 y7 y8 x0 x1 x2 x3 x4 x5 x6 x7 x8 : Value} (r0 : W.cell? ⟨b,0,none⟩ = some y0) (r1 : W.cell? ⟨b,1,none⟩ = some y1) (r2 : W.cell? ⟨b,2,none⟩ = some y2) (r3 : W.cell? ⟨b,3,none⟩ = some y3) (r4 : W.cell? ⟨b,4,none⟩ = some y4) (r5 : W.cell? ⟨b,5,none⟩ = some y5) (r6 : W.cell? ⟨b,6,none⟩ = some y6) (r7 : W.cell? ⟨b,7,none⟩ = some y7) (r8 : W.cell? ⟨b,8,none⟩ = some y8)
  (tmps : Array Value) (ht : tmps[2]? = some (.pointer (some ⟨b,0,none⟩))) :
  (results Tryz.f52 tmps).run Tryz.prog ((((((((((W.setCell ⟨b,0,none⟩ x0).setCell ⟨b,1,none⟩ x1).setCell ⟨b,2,none⟩ x2).setCell ⟨b,3,none⟩ x3).setCell ⟨b,4,none⟩ x4).setCell ⟨b,5,none⟩ x5).setCell ⟨b,6,none⟩ x6).setCell ⟨b,7,none⟩ x7).setCell ⟨b,8,none⟩ x8)) = .ok (.agg #[x0,x1,x2,x3,x4,x5,x6,x7,x8]) ((((((((((W.setCell ⟨b,0,none⟩ x0).setCell ⟨b,1,none⟩ x1).setCell ⟨b,2,none⟩ x2).setCell ⟨b,3,none⟩ x3).setCell ⟨b,4,none⟩ x4).setCell ⟨b,5,none⟩ x5).setCell ⟨b,6,none⟩ x6).setCell ⟨b,7,none⟩ x7).setCell ⟨b,8,none⟩ x8)) := by
 simp [results,Tryz.results52,go_sem,ht,r0,r1,r2,r3,r4,r5,r6,r7,r8]
theorem askedMore_back0 {W : World} {b : Nat} {x0 x1 x2 x3 x4 x5 x6 x7 x8 : Value} (r0 : W.cell? ⟨b,0,none⟩ = some x0) (r1 : W.cell? ⟨b,1,none⟩ = some x1) (r2 : W.cell? ⟨b,2,none⟩ = some x2) (r3 : W.cell? ⟨b,3,none⟩ = some x3) (r4 : W.cell? ⟨b,4,none⟩ = some x4) (r5 : W.cell? ⟨b,5,none⟩ = some x5) (r6 : W.cell? ⟨b,6,none⟩ = some x6) (r7 : W.cell? ⟨b,7,none⟩ = some x7) (r8 : W.cell? ⟨b,8,none⟩ = some x8)
  (tmps : Array Value) (ht : tmps[2]? = some (.pointer (some ⟨b,0,none⟩))) :
  (results Tryz.f52 tmps).run Tryz.prog W = .ok (.agg #[x0,x1,x2,x3,x4,x5,x6,x7,x8]) W := by
 simp [results,Tryz.results52,go_sem,ht,r0,r1,r2,r3,r4,r5,r6,r7,r8]
theorem asked_1 {w : World} {a0 a1 b0 b1 c0 c1 vk vl : Value} {N M : Int} {S : ByteArray} {z : Int} {k : Nat} (H : ∀ w',Below w.heap.size w w' → Calls Tryz.prog 38 #[.agg #[a0,a1]] w' (zOA w' z k)) :
  Calls Tryz.prog 8 #[.agg #[.int .i64 1,a0,a1,b0,b1,c0,c1,.int .i64 N,.int .i64 M,.string S,vk,vl]] w (AnsP w z 0 0 0 0 ⟨#[]⟩ 0) := by
 have k1 : ((1 : Int) == 1) = true := by decide
 have k14 : ¬ ((14 : Int) ≤ 1) := by decide
 obtain ⟨W0,hW⟩ : ∃ W0,((w.alloc (opo5 1 a0 a1 b0 b1 c0 c1 N M S vk vl)).alloc anz5).alloc anz5 = W0 := ⟨_,rfl⟩
 obtain ⟨h1,h2,h3,h4,SZ⟩ := tri5 w (opo5 1 a0 a1 b0 b1 c0 c1 N M S vk vl) anz5 anz5;rw [hW] at h1 h2 h3 h4 SZ;have B1 := hid h1;have B2 := hid h2;have B3 := hid h3;have G := hid h4;have EW := hid hW;clear h2 h3 h4;obtain ⟨o0,o1,o2,o3,o4,o5,o6,o7,o8,o9,o10,o11⟩ := tw5 h1;rw [← hW] at o0 o1 o2 o3 o4 o5 o6 o7 o8 o9 o10 o11;clear h1 hW;have HC := hid (H W0 G.out);clear H;go_enter Tryz.func8,Tryz.ntmps8;go_wp2_with fail;rw [EW.out];clear EW o0 o1 o2 o3 o4 o5 o6 o7 o8 o9 o10 o11;refine HC.out.mono ?_;rintro e w1 ⟨r,rfl,mz,b⟩;obtain ⟨nz,xz,az,cz,rfl⟩ := mz.parts;have MZ := hid mz;replace B1 := hid (box5 B1.out b);replace B2 := hid (box5 B2.out b);replace B3 := hid (box5 B3.out b);replace G := hid (below_step G.out b);obtain ⟨o0,-⟩ := tw5 B1.out;clear b HC mz;obtain ⟨⟨r0,r1,r2,r3,r4,r5,r6,r7,r8⟩,rf⟩ := zKA B2.out;obtain ⟨⟨z0,z1,z2,z3,z4,z5,z6,z7,z8⟩,zf⟩ := zKA B3.out;have rf0 := rf 0;have zf0 := zf 0;have rf1 := rf 1;have zf1 := zf 1;have rf2 := rf 2;have zf2 := zf 2;have rf3 := rf 3;have zf3 := zf 3;have rf4 := rf 4;have zf4 := zf 4;have rf5 := rf 5;have zf5 := zf 5;have rf6 := rf 6;have zf6 := zf 6;have rf7 := rf 7;have zf7 := zf 7;have rf8 := rf 8;have zf8 := zf 8;clear rf zf;go_wp2;obtain ⟨WX,hWX⟩ : ∃ WX,((w1.setCell ⟨w.heap.size + 1 + 1,0,none⟩ (.bool nz)).setCell ⟨w.heap.size + 1 + 1,1,none⟩ (.slice az xz.length cz)) = WX := ⟨_,rfl⟩
 have oX : Only (w.heap.size + 1 + 1) w1 WX := by rw [← hWX];exact (((Only.refl _ _).set _ _).set _ _)
 have mX : Mid5 w.heap.size (w.heap.size + 1 + 1 + 1) w1 WX := by rw [← hWX];exact (((Mid5.refl _ _ _).set (by omega) (by omega) _ _).set (by omega) (by omega) _ _)
 rw [hWX];clear hWX;have nb : w.heap.size + 1 ≠ w.heap.size + 1 + 1 := by omega
 exact bodyPost_ret (zeA ((oX.cell nb).trans r0) ((oX.cell nb).trans r1) ((oX.cell nb).trans r2) ((oX.cell nb).trans r3) ((oX.cell nb).trans r4) ((oX.cell nb).trans r5) ((oX.cell nb).trans r6) ((oX.cell nb).trans r7) ((oX.cell nb).trans r8) _ (by rfl)) rfl (zGA (B := W0.heap.size) (by omega) MZ.out (zLA _ _ 0) G.out (mX.nine (by omega) (by omega) _ _ _ _ _ _ _ _ _))
theorem asked_2 {w : World} {a0 a1 b0 b1 c0 c1 vk vl : Value} {N M : Int} {S : ByteArray} {z : Int} {k : Nat} (H : ∀ w',Below w.heap.size w w' → Calls Tryz.prog 39 #[.int .i64 M] w' (zOA w' z k)) :
  Calls Tryz.prog 8 #[.agg #[.int .i64 2,a0,a1,b0,b1,c0,c1,.int .i64 N,.int .i64 M,.string S,vk,vl]] w (AnsP w z 0 0 0 0 ⟨#[]⟩ 0) := by
 have k1 : ((2 : Int) == 1) = false := by decide
 have k2 : ((2 : Int) == 2) = true := by decide
 have k14 : ¬ ((14 : Int) ≤ 2) := by decide
 obtain ⟨W0,hW⟩ : ∃ W0,((w.alloc (opo5 2 a0 a1 b0 b1 c0 c1 N M S vk vl)).alloc anz5).alloc anz5 = W0 := ⟨_,rfl⟩
 obtain ⟨h1,h2,h3,h4,SZ⟩ := tri5 w (opo5 2 a0 a1 b0 b1 c0 c1 N M S vk vl) anz5 anz5;rw [hW] at h1 h2 h3 h4 SZ;have B1 := hid h1;have B2 := hid h2;have B3 := hid h3;have G := hid h4;have EW := hid hW;clear h2 h3 h4;obtain ⟨o0,o1,o2,o3,o4,o5,o6,o7,o8,o9,o10,o11⟩ := tw5 h1;rw [← hW] at o0 o1 o2 o3 o4 o5 o6 o7 o8 o9 o10 o11;clear h1 hW;have HC := hid (H W0 G.out);clear H;go_enter Tryz.func8,Tryz.ntmps8;go_wp2_with fail;rw [EW.out];clear EW o0 o1 o2 o3 o4 o5 o6 o7 o8 o9 o10 o11;refine HC.out.mono ?_;rintro e w1 ⟨r,rfl,mz,b⟩;obtain ⟨nz,xz,az,cz,rfl⟩ := mz.parts;have MZ := hid mz;replace B1 := hid (box5 B1.out b);replace B2 := hid (box5 B2.out b);replace B3 := hid (box5 B3.out b);replace G := hid (below_step G.out b);obtain ⟨o0,-⟩ := tw5 B1.out;clear b HC mz;obtain ⟨⟨r0,r1,r2,r3,r4,r5,r6,r7,r8⟩,rf⟩ := zKA B2.out;obtain ⟨⟨z0,z1,z2,z3,z4,z5,z6,z7,z8⟩,zf⟩ := zKA B3.out;have rf0 := rf 0;have zf0 := zf 0;have rf1 := rf 1;have zf1 := zf 1;have rf2 := rf 2;have zf2 := zf 2;have rf3 := rf 3;have zf3 := zf 3;have rf4 := rf 4;have zf4 := zf 4;have rf5 := rf 5;have zf5 := zf 5;have rf6 := rf 6;have zf6 := zf 6;have rf7 := rf 7;have zf7 := zf 7;have rf8 := rf 8;have zf8 := zf 8;clear rf zf;go_wp2;obtain ⟨WX,hWX⟩ : ∃ WX,((w1.setCell ⟨w.heap.size + 1 + 1,0,none⟩ (.bool nz)).setCell ⟨w.heap.size + 1 + 1,1,none⟩ (.slice az xz.length cz)) = WX := ⟨_,rfl⟩
 have oX : Only (w.heap.size + 1 + 1) w1 WX := by rw [← hWX];exact (((Only.refl _ _).set _ _).set _ _)
 have mX : Mid5 w.heap.size (w.heap.size + 1 + 1 + 1) w1 WX := by rw [← hWX];exact (((Mid5.refl _ _ _).set (by omega) (by omega) _ _).set (by omega) (by omega) _ _)
 rw [hWX];clear hWX;have nb : w.heap.size + 1 ≠ w.heap.size + 1 + 1 := by omega
 exact bodyPost_ret (zeA ((oX.cell nb).trans r0) ((oX.cell nb).trans r1) ((oX.cell nb).trans r2) ((oX.cell nb).trans r3) ((oX.cell nb).trans r4) ((oX.cell nb).trans r5) ((oX.cell nb).trans r6) ((oX.cell nb).trans r7) ((oX.cell nb).trans r8) _ (by rfl)) rfl (zGA (B := W0.heap.size) (by omega) MZ.out (zLA _ _ 0) G.out (mX.nine (by omega) (by omega) _ _ _ _ _ _ _ _ _))
theorem asked_3 {w : World} {a0 a1 b0 b1 c0 c1 vk vl : Value} {N M : Int} {S : ByteArray} {V E : Int} (H : ∀ w',Below w.heap.size w w' → Calls Tryz.prog 40 #[.agg #[a0,a1]] w' (fun e w'' => e = .returned (.tuple #[.int .i64 V,.int .i64 E]) ∧ Below w'.heap.size w' w'')) :
  Calls Tryz.prog 8 #[.agg #[.int .i64 3,a0,a1,b0,b1,c0,c1,.int .i64 N,.int .i64 M,.string S,vk,vl]] w (AnsP w 0 0 V 0 0 ⟨#[]⟩ E) := by
 have k1 : ((3 : Int) == 1) = false := by decide
 have k2 : ((3 : Int) == 2) = false := by decide
 have k3 : ((3 : Int) == 3) = true := by decide
 have k14 : ¬ ((14 : Int) ≤ 3) := by decide
 obtain ⟨W0,hW⟩ : ∃ W0,((w.alloc (opo5 3 a0 a1 b0 b1 c0 c1 N M S vk vl)).alloc anz5).alloc anz5 = W0 := ⟨_,rfl⟩
 obtain ⟨h1,h2,h3,h4,SZ⟩ := tri5 w (opo5 3 a0 a1 b0 b1 c0 c1 N M S vk vl) anz5 anz5;rw [hW] at h1 h2 h3 h4 SZ;have B1 := hid h1;have B2 := hid h2;have B3 := hid h3;have G := hid h4;have EW := hid hW;clear h2 h3 h4;obtain ⟨o0,o1,o2,o3,o4,o5,o6,o7,o8,o9,o10,o11⟩ := tw5 h1;rw [← hW] at o0 o1 o2 o3 o4 o5 o6 o7 o8 o9 o10 o11;clear h1 hW;have HC := hid (H W0 G.out);clear H;go_enter Tryz.func8,Tryz.ntmps8;go_wp2_with fail;rw [EW.out];clear EW o0 o1 o2 o3 o4 o5 o6 o7 o8 o9 o10 o11;refine HC.out.mono ?_;rintro e w1 ⟨rfl,b⟩;replace B1 := hid (box5 B1.out b);replace B2 := hid (box5 B2.out b);replace B3 := hid (box5 B3.out b);replace G := hid (below_step G.out b);obtain ⟨o0,-⟩ := tw5 B1.out;clear b HC;obtain ⟨⟨r0,r1,r2,r3,r4,r5,r6,r7,r8⟩,rf⟩ := zKA B2.out;obtain ⟨⟨z0,z1,z2,z3,z4,z5,z6,z7,z8⟩,zf⟩ := zKA B3.out;have rf0 := rf 0;have zf0 := zf 0;have rf1 := rf 1;have zf1 := zf 1;have rf2 := rf 2;have zf2 := zf 2;have rf3 := rf 3;have zf3 := zf 3;have rf4 := rf 4;have zf4 := zf 4;have rf5 := rf 5;have zf5 := zf 5;have rf6 := rf 6;have zf6 := zf 6;have rf7 := rf 7;have zf7 := zf 7;have rf8 := rf 8;have zf8 := zf 8;clear rf zf;go_wp2;obtain ⟨WX,hWX⟩ : ∃ WX,((w1.setCell ⟨w.heap.size + 1 + 1,4,none⟩ (.int .i64 V)).setCell ⟨w.heap.size + 1 + 1,8,none⟩ (.int .i64 E)) = WX := ⟨_,rfl⟩
 have oX : Only (w.heap.size + 1 + 1) w1 WX := by rw [← hWX];exact (((Only.refl _ _).set _ _).set _ _)
 have mX : Mid5 w.heap.size (w.heap.size + 1 + 1 + 1) w1 WX := by rw [← hWX];exact (((Mid5.refl _ _ _).set (by omega) (by omega) _ _).set (by omega) (by omega) _ _)
 rw [hWX];clear hWX;have nb : w.heap.size + 1 ≠ w.heap.size + 1 + 1 := by omega
 exact bodyPost_ret (zeA ((oX.cell nb).trans r0) ((oX.cell nb).trans r1) ((oX.cell nb).trans r2) ((oX.cell nb).trans r3) ((oX.cell nb).trans r4) ((oX.cell nb).trans r5) ((oX.cell nb).trans r6) ((oX.cell nb).trans r7) ((oX.cell nb).trans r8) _ (by rfl)) rfl (zGA (B := W0.heap.size) (by omega) (zLA _ _ 0) (zLA _ _ 0) G.out (mX.nine (by omega) (by omega) _ _ _ _ _ _ _ _ _))
theorem asked_5 {w : World} {a0 a1 b0 b1 c0 c1 vk vl : Value} {N M : Int} {S : ByteArray} {z : Int} {k : Nat} (H : ∀ w',Below w.heap.size w w' → Calls Tryz.prog 44 #[.agg #[a0,a1]] w' (zOA w' z k)) :
  Calls Tryz.prog 8 #[.agg #[.int .i64 5,a0,a1,b0,b1,c0,c1,.int .i64 N,.int .i64 M,.string S,vk,vl]] w (AnsP w z 0 0 0 0 ⟨#[]⟩ 0) := by
 have k1 : ((5 : Int) == 1) = false := by decide
 have k2 : ((5 : Int) == 2) = false := by decide
 have k3 : ((5 : Int) == 3) = false := by decide
 have k4 : ((5 : Int) == 4) = false := by decide
 have k5 : ((5 : Int) == 5) = true := by decide
 have k14 : ¬ ((14 : Int) ≤ 5) := by decide
 obtain ⟨W0,hW⟩ : ∃ W0,((w.alloc (opo5 5 a0 a1 b0 b1 c0 c1 N M S vk vl)).alloc anz5).alloc anz5 = W0 := ⟨_,rfl⟩
 obtain ⟨h1,h2,h3,h4,SZ⟩ := tri5 w (opo5 5 a0 a1 b0 b1 c0 c1 N M S vk vl) anz5 anz5;rw [hW] at h1 h2 h3 h4 SZ;have B1 := hid h1;have B2 := hid h2;have B3 := hid h3;have G := hid h4;have EW := hid hW;clear h2 h3 h4;obtain ⟨o0,o1,o2,o3,o4,o5,o6,o7,o8,o9,o10,o11⟩ := tw5 h1;rw [← hW] at o0 o1 o2 o3 o4 o5 o6 o7 o8 o9 o10 o11;clear h1 hW;have HC := hid (H W0 G.out);clear H;go_enter Tryz.func8,Tryz.ntmps8;go_wp2_with fail;rw [EW.out];clear EW o0 o1 o2 o3 o4 o5 o6 o7 o8 o9 o10 o11;refine HC.out.mono ?_;rintro e w1 ⟨r,rfl,mz,b⟩;obtain ⟨nz,xz,az,cz,rfl⟩ := mz.parts;have MZ := hid mz;replace B1 := hid (box5 B1.out b);replace B2 := hid (box5 B2.out b);replace B3 := hid (box5 B3.out b);replace G := hid (below_step G.out b);obtain ⟨o0,-⟩ := tw5 B1.out;clear b HC mz;obtain ⟨⟨r0,r1,r2,r3,r4,r5,r6,r7,r8⟩,rf⟩ := zKA B2.out;obtain ⟨⟨z0,z1,z2,z3,z4,z5,z6,z7,z8⟩,zf⟩ := zKA B3.out;have rf0 := rf 0;have zf0 := zf 0;have rf1 := rf 1;have zf1 := zf 1;have rf2 := rf 2;have zf2 := zf 2;have rf3 := rf 3;have zf3 := zf 3;have rf4 := rf 4;have zf4 := zf 4;have rf5 := rf 5;have zf5 := zf 5;have rf6 := rf 6;have zf6 := zf 6;have rf7 := rf 7;have zf7 := zf 7;have rf8 := rf 8;have zf8 := zf 8;clear rf zf;go_wp2;obtain ⟨WX,hWX⟩ : ∃ WX,((w1.setCell ⟨w.heap.size + 1 + 1,0,none⟩ (.bool nz)).setCell ⟨w.heap.size + 1 + 1,1,none⟩ (.slice az xz.length cz)) = WX := ⟨_,rfl⟩
 have oX : Only (w.heap.size + 1 + 1) w1 WX := by rw [← hWX];exact (((Only.refl _ _).set _ _).set _ _)
 have mX : Mid5 w.heap.size (w.heap.size + 1 + 1 + 1) w1 WX := by rw [← hWX];exact (((Mid5.refl _ _ _).set (by omega) (by omega) _ _).set (by omega) (by omega) _ _)
 rw [hWX];clear hWX;have nb : w.heap.size + 1 ≠ w.heap.size + 1 + 1 := by omega
 exact bodyPost_ret (zeA ((oX.cell nb).trans r0) ((oX.cell nb).trans r1) ((oX.cell nb).trans r2) ((oX.cell nb).trans r3) ((oX.cell nb).trans r4) ((oX.cell nb).trans r5) ((oX.cell nb).trans r6) ((oX.cell nb).trans r7) ((oX.cell nb).trans r8) _ (by rfl)) rfl (zGA (B := W0.heap.size) (by omega) MZ.out (zLA _ _ 0) G.out (mX.nine (by omega) (by omega) _ _ _ _ _ _ _ _ _))
theorem asked_6 {w : World} {a0 a1 b0 b1 c0 c1 vk vl : Value} {N M : Int} {S : ByteArray} {z : Int} {k : Nat} (H : ∀ w',Below w.heap.size w w' → Calls Tryz.prog 45 #[.agg #[a0,a1]] w' (zOA w' z k)) :
  Calls Tryz.prog 8 #[.agg #[.int .i64 6,a0,a1,b0,b1,c0,c1,.int .i64 N,.int .i64 M,.string S,vk,vl]] w (AnsP w z 0 0 0 0 ⟨#[]⟩ 0) := by
 have k1 : ((6 : Int) == 1) = false := by decide
 have k2 : ((6 : Int) == 2) = false := by decide
 have k3 : ((6 : Int) == 3) = false := by decide
 have k4 : ((6 : Int) == 4) = false := by decide
 have k5 : ((6 : Int) == 5) = false := by decide
 have k6 : ((6 : Int) == 6) = true := by decide
 have k14 : ¬ ((14 : Int) ≤ 6) := by decide
 obtain ⟨W0,hW⟩ : ∃ W0,((w.alloc (opo5 6 a0 a1 b0 b1 c0 c1 N M S vk vl)).alloc anz5).alloc anz5 = W0 := ⟨_,rfl⟩
 obtain ⟨h1,h2,h3,h4,SZ⟩ := tri5 w (opo5 6 a0 a1 b0 b1 c0 c1 N M S vk vl) anz5 anz5;rw [hW] at h1 h2 h3 h4 SZ;have B1 := hid h1;have B2 := hid h2;have B3 := hid h3;have G := hid h4;have EW := hid hW;clear h2 h3 h4;obtain ⟨o0,o1,o2,o3,o4,o5,o6,o7,o8,o9,o10,o11⟩ := tw5 h1;rw [← hW] at o0 o1 o2 o3 o4 o5 o6 o7 o8 o9 o10 o11;clear h1 hW;have HC := hid (H W0 G.out);clear H;go_enter Tryz.func8,Tryz.ntmps8;go_wp2_with fail;rw [EW.out];clear EW o0 o1 o2 o3 o4 o5 o6 o7 o8 o9 o10 o11;refine HC.out.mono ?_;rintro e w1 ⟨r,rfl,mz,b⟩;obtain ⟨nz,xz,az,cz,rfl⟩ := mz.parts;have MZ := hid mz;replace B1 := hid (box5 B1.out b);replace B2 := hid (box5 B2.out b);replace B3 := hid (box5 B3.out b);replace G := hid (below_step G.out b);obtain ⟨o0,-⟩ := tw5 B1.out;clear b HC mz;obtain ⟨⟨r0,r1,r2,r3,r4,r5,r6,r7,r8⟩,rf⟩ := zKA B2.out;obtain ⟨⟨z0,z1,z2,z3,z4,z5,z6,z7,z8⟩,zf⟩ := zKA B3.out;have rf0 := rf 0;have zf0 := zf 0;have rf1 := rf 1;have zf1 := zf 1;have rf2 := rf 2;have zf2 := zf 2;have rf3 := rf 3;have zf3 := zf 3;have rf4 := rf 4;have zf4 := zf 4;have rf5 := rf 5;have zf5 := zf 5;have rf6 := rf 6;have zf6 := zf 6;have rf7 := rf 7;have zf7 := zf 7;have rf8 := rf 8;have zf8 := zf 8;clear rf zf;go_wp2;obtain ⟨WX,hWX⟩ : ∃ WX,((w1.setCell ⟨w.heap.size + 1 + 1,0,none⟩ (.bool nz)).setCell ⟨w.heap.size + 1 + 1,1,none⟩ (.slice az xz.length cz)) = WX := ⟨_,rfl⟩
 have oX : Only (w.heap.size + 1 + 1) w1 WX := by rw [← hWX];exact (((Only.refl _ _).set _ _).set _ _)
 have mX : Mid5 w.heap.size (w.heap.size + 1 + 1 + 1) w1 WX := by rw [← hWX];exact (((Mid5.refl _ _ _).set (by omega) (by omega) _ _).set (by omega) (by omega) _ _)
 rw [hWX];clear hWX;have nb : w.heap.size + 1 ≠ w.heap.size + 1 + 1 := by omega
 exact bodyPost_ret (zeA ((oX.cell nb).trans r0) ((oX.cell nb).trans r1) ((oX.cell nb).trans r2) ((oX.cell nb).trans r3) ((oX.cell nb).trans r4) ((oX.cell nb).trans r5) ((oX.cell nb).trans r6) ((oX.cell nb).trans r7) ((oX.cell nb).trans r8) _ (by rfl)) rfl (zGA (B := W0.heap.size) (by omega) MZ.out (zLA _ _ 0) G.out (mX.nine (by omega) (by omega) _ _ _ _ _ _ _ _ _))
theorem asked_7 {w : World} {a0 a1 b0 b1 c0 c1 vk vl : Value} {N M : Int} {S : ByteArray} {z : Int} {k : Nat} (H : ∀ w',Below w.heap.size w w' → Calls Tryz.prog 46 #[.agg #[a0,a1],.agg #[b0,b1]] w' (zOA w' z k)) :
  Calls Tryz.prog 8 #[.agg #[.int .i64 7,a0,a1,b0,b1,c0,c1,.int .i64 N,.int .i64 M,.string S,vk,vl]] w (AnsP w z 0 0 0 0 ⟨#[]⟩ 0) := by
 have k1 : ((7 : Int) == 1) = false := by decide
 have k2 : ((7 : Int) == 2) = false := by decide
 have k3 : ((7 : Int) == 3) = false := by decide
 have k4 : ((7 : Int) == 4) = false := by decide
 have k5 : ((7 : Int) == 5) = false := by decide
 have k6 : ((7 : Int) == 6) = false := by decide
 have k7 : ((7 : Int) == 7) = true := by decide
 have k14 : ¬ ((14 : Int) ≤ 7) := by decide
 obtain ⟨W0,hW⟩ : ∃ W0,((w.alloc (opo5 7 a0 a1 b0 b1 c0 c1 N M S vk vl)).alloc anz5).alloc anz5 = W0 := ⟨_,rfl⟩
 obtain ⟨h1,h2,h3,h4,SZ⟩ := tri5 w (opo5 7 a0 a1 b0 b1 c0 c1 N M S vk vl) anz5 anz5;rw [hW] at h1 h2 h3 h4 SZ;have B1 := hid h1;have B2 := hid h2;have B3 := hid h3;have G := hid h4;have EW := hid hW;clear h2 h3 h4;obtain ⟨o0,o1,o2,o3,o4,o5,o6,o7,o8,o9,o10,o11⟩ := tw5 h1;rw [← hW] at o0 o1 o2 o3 o4 o5 o6 o7 o8 o9 o10 o11;clear h1 hW;have HC := hid (H W0 G.out);clear H;go_enter Tryz.func8,Tryz.ntmps8;go_wp2_with fail;rw [EW.out];clear EW o0 o1 o2 o3 o4 o5 o6 o7 o8 o9 o10 o11;refine HC.out.mono ?_;rintro e w1 ⟨r,rfl,mz,b⟩;obtain ⟨nz,xz,az,cz,rfl⟩ := mz.parts;have MZ := hid mz;replace B1 := hid (box5 B1.out b);replace B2 := hid (box5 B2.out b);replace B3 := hid (box5 B3.out b);replace G := hid (below_step G.out b);obtain ⟨o0,-⟩ := tw5 B1.out;clear b HC mz;obtain ⟨⟨r0,r1,r2,r3,r4,r5,r6,r7,r8⟩,rf⟩ := zKA B2.out;obtain ⟨⟨z0,z1,z2,z3,z4,z5,z6,z7,z8⟩,zf⟩ := zKA B3.out;have rf0 := rf 0;have zf0 := zf 0;have rf1 := rf 1;have zf1 := zf 1;have rf2 := rf 2;have zf2 := zf 2;have rf3 := rf 3;have zf3 := zf 3;have rf4 := rf 4;have zf4 := zf 4;have rf5 := rf 5;have zf5 := zf 5;have rf6 := rf 6;have zf6 := zf 6;have rf7 := rf 7;have zf7 := zf 7;have rf8 := rf 8;have zf8 := zf 8;clear rf zf;go_wp2;obtain ⟨WX,hWX⟩ : ∃ WX,((w1.setCell ⟨w.heap.size + 1 + 1,0,none⟩ (.bool nz)).setCell ⟨w.heap.size + 1 + 1,1,none⟩ (.slice az xz.length cz)) = WX := ⟨_,rfl⟩
 have oX : Only (w.heap.size + 1 + 1) w1 WX := by rw [← hWX];exact (((Only.refl _ _).set _ _).set _ _)
 have mX : Mid5 w.heap.size (w.heap.size + 1 + 1 + 1) w1 WX := by rw [← hWX];exact (((Mid5.refl _ _ _).set (by omega) (by omega) _ _).set (by omega) (by omega) _ _)
 rw [hWX];clear hWX;have nb : w.heap.size + 1 ≠ w.heap.size + 1 + 1 := by omega
 exact bodyPost_ret (zeA ((oX.cell nb).trans r0) ((oX.cell nb).trans r1) ((oX.cell nb).trans r2) ((oX.cell nb).trans r3) ((oX.cell nb).trans r4) ((oX.cell nb).trans r5) ((oX.cell nb).trans r6) ((oX.cell nb).trans r7) ((oX.cell nb).trans r8) _ (by rfl)) rfl (zGA (B := W0.heap.size) (by omega) MZ.out (zLA _ _ 0) G.out (mX.nine (by omega) (by omega) _ _ _ _ _ _ _ _ _))
theorem asked_8 {w : World} {a0 a1 b0 b1 c0 c1 vk vl : Value} {N M : Int} {S : ByteArray} {z : Int} {k : Nat} (H : ∀ w',Below w.heap.size w w' → Calls Tryz.prog 47 #[.agg #[a0,a1],.agg #[b0,b1]] w' (zOA w' z k)) :
  Calls Tryz.prog 8 #[.agg #[.int .i64 8,a0,a1,b0,b1,c0,c1,.int .i64 N,.int .i64 M,.string S,vk,vl]] w (AnsP w z 0 0 0 0 ⟨#[]⟩ 0) := by
 have k1 : ((8 : Int) == 1) = false := by decide
 have k2 : ((8 : Int) == 2) = false := by decide
 have k3 : ((8 : Int) == 3) = false := by decide
 have k4 : ((8 : Int) == 4) = false := by decide
 have k5 : ((8 : Int) == 5) = false := by decide
 have k6 : ((8 : Int) == 6) = false := by decide
 have k7 : ((8 : Int) == 7) = false := by decide
 have k8 : ((8 : Int) == 8) = true := by decide
 have k14 : ¬ ((14 : Int) ≤ 8) := by decide
 obtain ⟨W0,hW⟩ : ∃ W0,((w.alloc (opo5 8 a0 a1 b0 b1 c0 c1 N M S vk vl)).alloc anz5).alloc anz5 = W0 := ⟨_,rfl⟩
 obtain ⟨h1,h2,h3,h4,SZ⟩ := tri5 w (opo5 8 a0 a1 b0 b1 c0 c1 N M S vk vl) anz5 anz5;rw [hW] at h1 h2 h3 h4 SZ;have B1 := hid h1;have B2 := hid h2;have B3 := hid h3;have G := hid h4;have EW := hid hW;clear h2 h3 h4;obtain ⟨o0,o1,o2,o3,o4,o5,o6,o7,o8,o9,o10,o11⟩ := tw5 h1;rw [← hW] at o0 o1 o2 o3 o4 o5 o6 o7 o8 o9 o10 o11;clear h1 hW;have HC := hid (H W0 G.out);clear H;go_enter Tryz.func8,Tryz.ntmps8;go_wp2_with fail;rw [EW.out];clear EW o0 o1 o2 o3 o4 o5 o6 o7 o8 o9 o10 o11;refine HC.out.mono ?_;rintro e w1 ⟨r,rfl,mz,b⟩;obtain ⟨nz,xz,az,cz,rfl⟩ := mz.parts;have MZ := hid mz;replace B1 := hid (box5 B1.out b);replace B2 := hid (box5 B2.out b);replace B3 := hid (box5 B3.out b);replace G := hid (below_step G.out b);obtain ⟨o0,-⟩ := tw5 B1.out;clear b HC mz;obtain ⟨⟨r0,r1,r2,r3,r4,r5,r6,r7,r8⟩,rf⟩ := zKA B2.out;obtain ⟨⟨z0,z1,z2,z3,z4,z5,z6,z7,z8⟩,zf⟩ := zKA B3.out;have rf0 := rf 0;have zf0 := zf 0;have rf1 := rf 1;have zf1 := zf 1;have rf2 := rf 2;have zf2 := zf 2;have rf3 := rf 3;have zf3 := zf 3;have rf4 := rf 4;have zf4 := zf 4;have rf5 := rf 5;have zf5 := zf 5;have rf6 := rf 6;have zf6 := zf 6;have rf7 := rf 7;have zf7 := zf 7;have rf8 := rf 8;have zf8 := zf 8;clear rf zf;go_wp2;obtain ⟨WX,hWX⟩ : ∃ WX,((w1.setCell ⟨w.heap.size + 1 + 1,0,none⟩ (.bool nz)).setCell ⟨w.heap.size + 1 + 1,1,none⟩ (.slice az xz.length cz)) = WX := ⟨_,rfl⟩
 have oX : Only (w.heap.size + 1 + 1) w1 WX := by rw [← hWX];exact (((Only.refl _ _).set _ _).set _ _)
 have mX : Mid5 w.heap.size (w.heap.size + 1 + 1 + 1) w1 WX := by rw [← hWX];exact (((Mid5.refl _ _ _).set (by omega) (by omega) _ _).set (by omega) (by omega) _ _)
 rw [hWX];clear hWX;have nb : w.heap.size + 1 ≠ w.heap.size + 1 + 1 := by omega
 exact bodyPost_ret (zeA ((oX.cell nb).trans r0) ((oX.cell nb).trans r1) ((oX.cell nb).trans r2) ((oX.cell nb).trans r3) ((oX.cell nb).trans r4) ((oX.cell nb).trans r5) ((oX.cell nb).trans r6) ((oX.cell nb).trans r7) ((oX.cell nb).trans r8) _ (by rfl)) rfl (zGA (B := W0.heap.size) (by omega) MZ.out (zLA _ _ 0) G.out (mX.nine (by omega) (by omega) _ _ _ _ _ _ _ _ _))
theorem asked_9 {w : World} {a0 a1 b0 b1 c0 c1 vk vl : Value} {N M : Int} {S : ByteArray} {z : Int} {k : Nat} (H : ∀ w',Below w.heap.size w w' → Calls Tryz.prog 18 #[.agg #[a0,a1],.agg #[b0,b1]] w' (zOA w' z k)) :
  Calls Tryz.prog 8 #[.agg #[.int .i64 9,a0,a1,b0,b1,c0,c1,.int .i64 N,.int .i64 M,.string S,vk,vl]] w (AnsP w z 0 0 0 0 ⟨#[]⟩ 0) := by
 have k1 : ((9 : Int) == 1) = false := by decide
 have k2 : ((9 : Int) == 2) = false := by decide
 have k3 : ((9 : Int) == 3) = false := by decide
 have k4 : ((9 : Int) == 4) = false := by decide
 have k5 : ((9 : Int) == 5) = false := by decide
 have k6 : ((9 : Int) == 6) = false := by decide
 have k7 : ((9 : Int) == 7) = false := by decide
 have k8 : ((9 : Int) == 8) = false := by decide
 have k9 : ((9 : Int) == 9) = true := by decide
 have k14 : ¬ ((14 : Int) ≤ 9) := by decide
 obtain ⟨W0,hW⟩ : ∃ W0,((w.alloc (opo5 9 a0 a1 b0 b1 c0 c1 N M S vk vl)).alloc anz5).alloc anz5 = W0 := ⟨_,rfl⟩
 obtain ⟨h1,h2,h3,h4,SZ⟩ := tri5 w (opo5 9 a0 a1 b0 b1 c0 c1 N M S vk vl) anz5 anz5;rw [hW] at h1 h2 h3 h4 SZ;have B1 := hid h1;have B2 := hid h2;have B3 := hid h3;have G := hid h4;have EW := hid hW;clear h2 h3 h4;obtain ⟨o0,o1,o2,o3,o4,o5,o6,o7,o8,o9,o10,o11⟩ := tw5 h1;rw [← hW] at o0 o1 o2 o3 o4 o5 o6 o7 o8 o9 o10 o11;clear h1 hW;have HC := hid (H W0 G.out);clear H;go_enter Tryz.func8,Tryz.ntmps8;go_wp2_with fail;rw [EW.out];clear EW o0 o1 o2 o3 o4 o5 o6 o7 o8 o9 o10 o11;refine HC.out.mono ?_;rintro e w1 ⟨r,rfl,mz,b⟩;obtain ⟨nz,xz,az,cz,rfl⟩ := mz.parts;have MZ := hid mz;replace B1 := hid (box5 B1.out b);replace B2 := hid (box5 B2.out b);replace B3 := hid (box5 B3.out b);replace G := hid (below_step G.out b);obtain ⟨o0,-⟩ := tw5 B1.out;clear b HC mz;obtain ⟨⟨r0,r1,r2,r3,r4,r5,r6,r7,r8⟩,rf⟩ := zKA B2.out;obtain ⟨⟨z0,z1,z2,z3,z4,z5,z6,z7,z8⟩,zf⟩ := zKA B3.out;have rf0 := rf 0;have zf0 := zf 0;have rf1 := rf 1;have zf1 := zf 1;have rf2 := rf 2;have zf2 := zf 2;have rf3 := rf 3;have zf3 := zf 3;have rf4 := rf 4;have zf4 := zf 4;have rf5 := rf 5;have zf5 := zf 5;have rf6 := rf 6;have zf6 := zf 6;have rf7 := rf 7;have zf7 := zf 7;have rf8 := rf 8;have zf8 := zf 8;clear rf zf;go_wp2;obtain ⟨WX,hWX⟩ : ∃ WX,((w1.setCell ⟨w.heap.size + 1 + 1,0,none⟩ (.bool nz)).setCell ⟨w.heap.size + 1 + 1,1,none⟩ (.slice az xz.length cz)) = WX := ⟨_,rfl⟩
 have oX : Only (w.heap.size + 1 + 1) w1 WX := by rw [← hWX];exact (((Only.refl _ _).set _ _).set _ _)
 have mX : Mid5 w.heap.size (w.heap.size + 1 + 1 + 1) w1 WX := by rw [← hWX];exact (((Mid5.refl _ _ _).set (by omega) (by omega) _ _).set (by omega) (by omega) _ _)
 rw [hWX];clear hWX;have nb : w.heap.size + 1 ≠ w.heap.size + 1 + 1 := by omega
 exact bodyPost_ret (zeA ((oX.cell nb).trans r0) ((oX.cell nb).trans r1) ((oX.cell nb).trans r2) ((oX.cell nb).trans r3) ((oX.cell nb).trans r4) ((oX.cell nb).trans r5) ((oX.cell nb).trans r6) ((oX.cell nb).trans r7) ((oX.cell nb).trans r8) _ (by rfl)) rfl (zGA (B := W0.heap.size) (by omega) MZ.out (zLA _ _ 0) G.out (mX.nine (by omega) (by omega) _ _ _ _ _ _ _ _ _))
theorem asked_10 {w : World} {a0 a1 b0 b1 c0 c1 vk vl : Value} {N M : Int} {S : ByteArray} {z : Int} {k : Nat} (H : ∀ w',Below w.heap.size w w' → Calls Tryz.prog 48 #[.agg #[a0,a1],.agg #[b0,b1],.agg #[c0,c1]] w' (zOA w' z k)) :
  Calls Tryz.prog 8 #[.agg #[.int .i64 10,a0,a1,b0,b1,c0,c1,.int .i64 N,.int .i64 M,.string S,vk,vl]] w (AnsP w z 0 0 0 0 ⟨#[]⟩ 0) := by
 have k1 : ((10 : Int) == 1) = false := by decide
 have k2 : ((10 : Int) == 2) = false := by decide
 have k3 : ((10 : Int) == 3) = false := by decide
 have k4 : ((10 : Int) == 4) = false := by decide
 have k5 : ((10 : Int) == 5) = false := by decide
 have k6 : ((10 : Int) == 6) = false := by decide
 have k7 : ((10 : Int) == 7) = false := by decide
 have k8 : ((10 : Int) == 8) = false := by decide
 have k9 : ((10 : Int) == 9) = false := by decide
 have k10 : ((10 : Int) == 10) = true := by decide
 have k14 : ¬ ((14 : Int) ≤ 10) := by decide
 obtain ⟨W0,hW⟩ : ∃ W0,((w.alloc (opo5 10 a0 a1 b0 b1 c0 c1 N M S vk vl)).alloc anz5).alloc anz5 = W0 := ⟨_,rfl⟩
 obtain ⟨h1,h2,h3,h4,SZ⟩ := tri5 w (opo5 10 a0 a1 b0 b1 c0 c1 N M S vk vl) anz5 anz5;rw [hW] at h1 h2 h3 h4 SZ;have B1 := hid h1;have B2 := hid h2;have B3 := hid h3;have G := hid h4;have EW := hid hW;clear h2 h3 h4;obtain ⟨o0,o1,o2,o3,o4,o5,o6,o7,o8,o9,o10,o11⟩ := tw5 h1;rw [← hW] at o0 o1 o2 o3 o4 o5 o6 o7 o8 o9 o10 o11;clear h1 hW;have HC := hid (H W0 G.out);clear H;go_enter Tryz.func8,Tryz.ntmps8;go_wp2_with fail;rw [EW.out];clear EW o0 o1 o2 o3 o4 o5 o6 o7 o8 o9 o10 o11;refine HC.out.mono ?_;rintro e w1 ⟨r,rfl,mz,b⟩;obtain ⟨nz,xz,az,cz,rfl⟩ := mz.parts;have MZ := hid mz;replace B1 := hid (box5 B1.out b);replace B2 := hid (box5 B2.out b);replace B3 := hid (box5 B3.out b);replace G := hid (below_step G.out b);obtain ⟨o0,-⟩ := tw5 B1.out;clear b HC mz;obtain ⟨⟨r0,r1,r2,r3,r4,r5,r6,r7,r8⟩,rf⟩ := zKA B2.out;obtain ⟨⟨z0,z1,z2,z3,z4,z5,z6,z7,z8⟩,zf⟩ := zKA B3.out;have rf0 := rf 0;have zf0 := zf 0;have rf1 := rf 1;have zf1 := zf 1;have rf2 := rf 2;have zf2 := zf 2;have rf3 := rf 3;have zf3 := zf 3;have rf4 := rf 4;have zf4 := zf 4;have rf5 := rf 5;have zf5 := zf 5;have rf6 := rf 6;have zf6 := zf 6;have rf7 := rf 7;have zf7 := zf 7;have rf8 := rf 8;have zf8 := zf 8;clear rf zf;go_wp2;obtain ⟨WX,hWX⟩ : ∃ WX,((w1.setCell ⟨w.heap.size + 1 + 1,0,none⟩ (.bool nz)).setCell ⟨w.heap.size + 1 + 1,1,none⟩ (.slice az xz.length cz)) = WX := ⟨_,rfl⟩
 have oX : Only (w.heap.size + 1 + 1) w1 WX := by rw [← hWX];exact (((Only.refl _ _).set _ _).set _ _)
 have mX : Mid5 w.heap.size (w.heap.size + 1 + 1 + 1) w1 WX := by rw [← hWX];exact (((Mid5.refl _ _ _).set (by omega) (by omega) _ _).set (by omega) (by omega) _ _)
 rw [hWX];clear hWX;have nb : w.heap.size + 1 ≠ w.heap.size + 1 + 1 := by omega
 exact bodyPost_ret (zeA ((oX.cell nb).trans r0) ((oX.cell nb).trans r1) ((oX.cell nb).trans r2) ((oX.cell nb).trans r3) ((oX.cell nb).trans r4) ((oX.cell nb).trans r5) ((oX.cell nb).trans r6) ((oX.cell nb).trans r7) ((oX.cell nb).trans r8) _ (by rfl)) rfl (zGA (B := W0.heap.size) (by omega) MZ.out (zLA _ _ 0) G.out (mX.nine (by omega) (by omega) _ _ _ _ _ _ _ _ _))
theorem asked_11 {w : World} {a0 a1 b0 b1 c0 c1 vk vl : Value} {N M : Int} {S : ByteArray} {z : Int} {k : Nat} (H : ∀ w',Below w.heap.size w w' → Calls Tryz.prog 49 #[vl] w' (zOA w' z k)) :
  Calls Tryz.prog 8 #[.agg #[.int .i64 11,a0,a1,b0,b1,c0,c1,.int .i64 N,.int .i64 M,.string S,vk,vl]] w (AnsP w z 0 0 0 0 ⟨#[]⟩ 0) := by
 have k1 : ((11 : Int) == 1) = false := by decide
 have k2 : ((11 : Int) == 2) = false := by decide
 have k3 : ((11 : Int) == 3) = false := by decide
 have k4 : ((11 : Int) == 4) = false := by decide
 have k5 : ((11 : Int) == 5) = false := by decide
 have k6 : ((11 : Int) == 6) = false := by decide
 have k7 : ((11 : Int) == 7) = false := by decide
 have k8 : ((11 : Int) == 8) = false := by decide
 have k9 : ((11 : Int) == 9) = false := by decide
 have k10 : ((11 : Int) == 10) = false := by decide
 have k11 : ((11 : Int) == 11) = true := by decide
 have k14 : ¬ ((14 : Int) ≤ 11) := by decide
 obtain ⟨W0,hW⟩ : ∃ W0,((w.alloc (opo5 11 a0 a1 b0 b1 c0 c1 N M S vk vl)).alloc anz5).alloc anz5 = W0 := ⟨_,rfl⟩
 obtain ⟨h1,h2,h3,h4,SZ⟩ := tri5 w (opo5 11 a0 a1 b0 b1 c0 c1 N M S vk vl) anz5 anz5;rw [hW] at h1 h2 h3 h4 SZ;have B1 := hid h1;have B2 := hid h2;have B3 := hid h3;have G := hid h4;have EW := hid hW;clear h2 h3 h4;obtain ⟨o0,o1,o2,o3,o4,o5,o6,o7,o8,o9,o10,o11⟩ := tw5 h1;rw [← hW] at o0 o1 o2 o3 o4 o5 o6 o7 o8 o9 o10 o11;clear h1 hW;have HC := hid (H W0 G.out);clear H;go_enter Tryz.func8,Tryz.ntmps8;go_wp2_with fail;rw [EW.out];clear EW o0 o1 o2 o3 o4 o5 o6 o7 o8 o9 o10 o11;refine HC.out.mono ?_;rintro e w1 ⟨r,rfl,mz,b⟩;obtain ⟨nz,xz,az,cz,rfl⟩ := mz.parts;have MZ := hid mz;replace B1 := hid (box5 B1.out b);replace B2 := hid (box5 B2.out b);replace B3 := hid (box5 B3.out b);replace G := hid (below_step G.out b);obtain ⟨o0,-⟩ := tw5 B1.out;clear b HC mz;obtain ⟨⟨r0,r1,r2,r3,r4,r5,r6,r7,r8⟩,rf⟩ := zKA B2.out;obtain ⟨⟨z0,z1,z2,z3,z4,z5,z6,z7,z8⟩,zf⟩ := zKA B3.out;have rf0 := rf 0;have zf0 := zf 0;have rf1 := rf 1;have zf1 := zf 1;have rf2 := rf 2;have zf2 := zf 2;have rf3 := rf 3;have zf3 := zf 3;have rf4 := rf 4;have zf4 := zf 4;have rf5 := rf 5;have zf5 := zf 5;have rf6 := rf 6;have zf6 := zf 6;have rf7 := rf 7;have zf7 := zf 7;have rf8 := rf 8;have zf8 := zf 8;clear rf zf;go_wp2;obtain ⟨WX,hWX⟩ : ∃ WX,((w1.setCell ⟨w.heap.size + 1 + 1,0,none⟩ (.bool nz)).setCell ⟨w.heap.size + 1 + 1,1,none⟩ (.slice az xz.length cz)) = WX := ⟨_,rfl⟩
 have oX : Only (w.heap.size + 1 + 1) w1 WX := by rw [← hWX];exact (((Only.refl _ _).set _ _).set _ _)
 have mX : Mid5 w.heap.size (w.heap.size + 1 + 1 + 1) w1 WX := by rw [← hWX];exact (((Mid5.refl _ _ _).set (by omega) (by omega) _ _).set (by omega) (by omega) _ _)
 rw [hWX];clear hWX;have nb : w.heap.size + 1 ≠ w.heap.size + 1 + 1 := by omega
 exact bodyPost_ret (zeA ((oX.cell nb).trans r0) ((oX.cell nb).trans r1) ((oX.cell nb).trans r2) ((oX.cell nb).trans r3) ((oX.cell nb).trans r4) ((oX.cell nb).trans r5) ((oX.cell nb).trans r6) ((oX.cell nb).trans r7) ((oX.cell nb).trans r8) _ (by rfl)) rfl (zGA (B := W0.heap.size) (by omega) MZ.out (zLA _ _ 0) G.out (mX.nine (by omega) (by omega) _ _ _ _ _ _ _ _ _))
theorem zXH {w : World} {a0 a1 b0 b1 c0 c1 vk vl : Value} {N M : Int} {S : ByteArray} {E z : Int} {k : Nat} (H : ∀ w',Below w.heap.size w w' → Calls Tryz.prog 50 #[vk,vl] w' (zMA E w' z k)) :
  Calls Tryz.prog 8 #[.agg #[.int .i64 12,a0,a1,b0,b1,c0,c1,.int .i64 N,.int .i64 M,.string S,vk,vl]] w (AnsP w z 0 0 0 0 ⟨#[]⟩ E) := by
 have k1 : ((12 : Int) == 1) = false := by decide
 have k2 : ((12 : Int) == 2) = false := by decide
 have k3 : ((12 : Int) == 3) = false := by decide
 have k4 : ((12 : Int) == 4) = false := by decide
 have k5 : ((12 : Int) == 5) = false := by decide
 have k6 : ((12 : Int) == 6) = false := by decide
 have k7 : ((12 : Int) == 7) = false := by decide
 have k8 : ((12 : Int) == 8) = false := by decide
 have k9 : ((12 : Int) == 9) = false := by decide
 have k10 : ((12 : Int) == 10) = false := by decide
 have k11 : ((12 : Int) == 11) = false := by decide
 have k12 : ((12 : Int) == 12) = true := by decide
 have k14 : ¬ ((14 : Int) ≤ 12) := by decide
 obtain ⟨W0,hW⟩ : ∃ W0,((w.alloc (opo5 12 a0 a1 b0 b1 c0 c1 N M S vk vl)).alloc anz5).alloc anz5 = W0 := ⟨_,rfl⟩
 obtain ⟨h1,h2,h3,h4,SZ⟩ := tri5 w (opo5 12 a0 a1 b0 b1 c0 c1 N M S vk vl) anz5 anz5;rw [hW] at h1 h2 h3 h4 SZ;have B1 := hid h1;have B2 := hid h2;have B3 := hid h3;have G := hid h4;have EW := hid hW;clear h2 h3 h4;obtain ⟨o0,o1,o2,o3,o4,o5,o6,o7,o8,o9,o10,o11⟩ := tw5 h1;rw [← hW] at o0 o1 o2 o3 o4 o5 o6 o7 o8 o9 o10 o11;clear h1 hW;have HC := hid (H W0 G.out);clear H;go_enter Tryz.func8,Tryz.ntmps8;go_wp2_with fail;rw [EW.out];clear EW o0 o1 o2 o3 o4 o5 o6 o7 o8 o9 o10 o11;refine HC.out.mono ?_;rintro e w1 ⟨r,rfl,mz,b⟩;obtain ⟨nz,xz,az,cz,rfl⟩ := mz.parts;have MZ := hid mz;replace B1 := hid (box5 B1.out b);replace B2 := hid (box5 B2.out b);replace B3 := hid (box5 B3.out b);replace G := hid (below_step G.out b);obtain ⟨o0,-⟩ := tw5 B1.out;clear b HC mz;obtain ⟨⟨r0,r1,r2,r3,r4,r5,r6,r7,r8⟩,rf⟩ := zKA B2.out;obtain ⟨⟨z0,z1,z2,z3,z4,z5,z6,z7,z8⟩,zf⟩ := zKA B3.out;have rf0 := rf 0;have zf0 := zf 0;have rf1 := rf 1;have zf1 := zf 1;have rf2 := rf 2;have zf2 := zf 2;have rf3 := rf 3;have zf3 := zf 3;have rf4 := rf 4;have zf4 := zf 4;have rf5 := rf 5;have zf5 := zf 5;have rf6 := rf 6;have zf6 := zf 6;have rf7 := rf 7;have zf7 := zf 7;have rf8 := rf 8;have zf8 := zf 8;clear rf zf;go_wp2;obtain ⟨WX,hWX⟩ : ∃ WX,(((w1.setCell ⟨w.heap.size + 1 + 1,0,none⟩ (.bool nz)).setCell ⟨w.heap.size + 1 + 1,1,none⟩ (.slice az xz.length cz)).setCell ⟨w.heap.size + 1 + 1,8,none⟩ (.int .i64 E)) = WX := ⟨_,rfl⟩
 have oX : Only (w.heap.size + 1 + 1) w1 WX := by rw [← hWX];exact ((((Only.refl _ _).set _ _).set _ _).set _ _)
 have mX : Mid5 w.heap.size (w.heap.size + 1 + 1 + 1) w1 WX := by rw [← hWX];exact ((((Mid5.refl _ _ _).set (by omega) (by omega) _ _).set (by omega) (by omega) _ _).set (by omega) (by omega) _ _)
 rw [hWX];clear hWX;have nb : w.heap.size + 1 ≠ w.heap.size + 1 + 1 := by omega
 exact bodyPost_ret (zeA ((oX.cell nb).trans r0) ((oX.cell nb).trans r1) ((oX.cell nb).trans r2) ((oX.cell nb).trans r3) ((oX.cell nb).trans r4) ((oX.cell nb).trans r5) ((oX.cell nb).trans r6) ((oX.cell nb).trans r7) ((oX.cell nb).trans r8) _ (by rfl)) rfl (zGA (B := W0.heap.size) (by omega) MZ.out (zLA _ _ 0) G.out (mX.nine (by omega) (by omega) _ _ _ _ _ _ _ _ _))
theorem zxF {w : World} {a0 a1 b0 b1 c0 c1 vk vl : Value} {N M : Int} {S : ByteArray} {E z : Int} {k : Nat} (H : ∀ w',Below w.heap.size w w' → Calls Tryz.prog 51 #[.agg #[a0,a1],.int .i64 N] w' (zMA E w' z k)) :
  Calls Tryz.prog 8 #[.agg #[.int .i64 13,a0,a1,b0,b1,c0,c1,.int .i64 N,.int .i64 M,.string S,vk,vl]] w (AnsP w z 0 0 0 0 ⟨#[]⟩ E) := by
 have k1 : ((13 : Int) == 1) = false := by decide
 have k2 : ((13 : Int) == 2) = false := by decide
 have k3 : ((13 : Int) == 3) = false := by decide
 have k4 : ((13 : Int) == 4) = false := by decide
 have k5 : ((13 : Int) == 5) = false := by decide
 have k6 : ((13 : Int) == 6) = false := by decide
 have k7 : ((13 : Int) == 7) = false := by decide
 have k8 : ((13 : Int) == 8) = false := by decide
 have k9 : ((13 : Int) == 9) = false := by decide
 have k10 : ((13 : Int) == 10) = false := by decide
 have k11 : ((13 : Int) == 11) = false := by decide
 have k12 : ((13 : Int) == 12) = false := by decide
 have k13 : ((13 : Int) == 13) = true := by decide
 have k14 : ¬ ((14 : Int) ≤ 13) := by decide
 obtain ⟨W0,hW⟩ : ∃ W0,((w.alloc (opo5 13 a0 a1 b0 b1 c0 c1 N M S vk vl)).alloc anz5).alloc anz5 = W0 := ⟨_,rfl⟩
 obtain ⟨h1,h2,h3,h4,SZ⟩ := tri5 w (opo5 13 a0 a1 b0 b1 c0 c1 N M S vk vl) anz5 anz5;rw [hW] at h1 h2 h3 h4 SZ;have B1 := hid h1;have B2 := hid h2;have B3 := hid h3;have G := hid h4;have EW := hid hW;clear h2 h3 h4;obtain ⟨o0,o1,o2,o3,o4,o5,o6,o7,o8,o9,o10,o11⟩ := tw5 h1;rw [← hW] at o0 o1 o2 o3 o4 o5 o6 o7 o8 o9 o10 o11;clear h1 hW;have HC := hid (H W0 G.out);clear H;go_enter Tryz.func8,Tryz.ntmps8;go_wp2_with fail;rw [EW.out];clear EW o0 o1 o2 o3 o4 o5 o6 o7 o8 o9 o10 o11;refine HC.out.mono ?_;rintro e w1 ⟨r,rfl,mz,b⟩;obtain ⟨nz,xz,az,cz,rfl⟩ := mz.parts;have MZ := hid mz;replace B1 := hid (box5 B1.out b);replace B2 := hid (box5 B2.out b);replace B3 := hid (box5 B3.out b);replace G := hid (below_step G.out b);obtain ⟨o0,-⟩ := tw5 B1.out;clear b HC mz;obtain ⟨⟨r0,r1,r2,r3,r4,r5,r6,r7,r8⟩,rf⟩ := zKA B2.out;obtain ⟨⟨z0,z1,z2,z3,z4,z5,z6,z7,z8⟩,zf⟩ := zKA B3.out;have rf0 := rf 0;have zf0 := zf 0;have rf1 := rf 1;have zf1 := zf 1;have rf2 := rf 2;have zf2 := zf 2;have rf3 := rf 3;have zf3 := zf 3;have rf4 := rf 4;have zf4 := zf 4;have rf5 := rf 5;have zf5 := zf 5;have rf6 := rf 6;have zf6 := zf 6;have rf7 := rf 7;have zf7 := zf 7;have rf8 := rf 8;have zf8 := zf 8;clear rf zf;go_wp2;obtain ⟨WX,hWX⟩ : ∃ WX,(((w1.setCell ⟨w.heap.size + 1 + 1,0,none⟩ (.bool nz)).setCell ⟨w.heap.size + 1 + 1,1,none⟩ (.slice az xz.length cz)).setCell ⟨w.heap.size + 1 + 1,8,none⟩ (.int .i64 E)) = WX := ⟨_,rfl⟩
 have oX : Only (w.heap.size + 1 + 1) w1 WX := by rw [← hWX];exact ((((Only.refl _ _).set _ _).set _ _).set _ _)
 have mX : Mid5 w.heap.size (w.heap.size + 1 + 1 + 1) w1 WX := by rw [← hWX];exact ((((Mid5.refl _ _ _).set (by omega) (by omega) _ _).set (by omega) (by omega) _ _).set (by omega) (by omega) _ _)
 rw [hWX];clear hWX;have nb : w.heap.size + 1 ≠ w.heap.size + 1 + 1 := by omega
 exact bodyPost_ret (zeA ((oX.cell nb).trans r0) ((oX.cell nb).trans r1) ((oX.cell nb).trans r2) ((oX.cell nb).trans r3) ((oX.cell nb).trans r4) ((oX.cell nb).trans r5) ((oX.cell nb).trans r6) ((oX.cell nb).trans r7) ((oX.cell nb).trans r8) _ (by rfl)) rfl (zGA (B := W0.heap.size) (by omega) MZ.out (zLA _ _ 0) G.out (mX.nine (by omega) (by omega) _ _ _ _ _ _ _ _ _))
theorem asked_4 {w : World} {a0 a1 b0 b1 c0 c1 vk vl : Value} {N M : Int} {S : ByteArray} {V P Q : Int} (H1 : ∀ w',Below w.heap.size w w' → Calls Tryz.prog 41 #[.agg #[a0,a1]] w' (fun e w'' => e = .returned (.int .i64 V) ∧ Below w'.heap.size w' w''))
  (H2 : ∀ w',Below w.heap.size w w' → Calls Tryz.prog 42 #[.agg #[a0,a1],.agg #[b0,b1]] w' (fun e w'' => e = .returned (.int .i64 P) ∧ Below w'.heap.size w' w''))
  (H3 : ∀ w',Below w.heap.size w w' → Calls Tryz.prog 43 #[.agg #[a0,a1],.agg #[b0,b1]] w' (fun e w'' => e = .returned (.int .i64 Q) ∧ Below w'.heap.size w' w'')) :
  Calls Tryz.prog 8 #[.agg #[.int .i64 4,a0,a1,b0,b1,c0,c1,.int .i64 N,.int .i64 M,.string S,vk,vl]] w (AnsP w 0 0 V P Q ⟨#[]⟩ 0) := by
 have k1 : ((4 : Int) == 1) = false := by decide
 have k2 : ((4 : Int) == 2) = false := by decide
 have k3 : ((4 : Int) == 3) = false := by decide
 have k4 : ((4 : Int) == 4) = true := by decide
 have k14 : ¬ ((14 : Int) ≤ 4) := by decide
 obtain ⟨W0,hW⟩ : ∃ W0,((w.alloc (opo5 4 a0 a1 b0 b1 c0 c1 N M S vk vl)).alloc anz5).alloc anz5 = W0 := ⟨_,rfl⟩
 obtain ⟨h1,h2,h3,h4,SZ⟩ := tri5 w (opo5 4 a0 a1 b0 b1 c0 c1 N M S vk vl) anz5 anz5;rw [hW] at h1 h2 h3 h4 SZ;have B1 := hid h1;have B2 := hid h2;have B3 := hid h3;have G := hid h4;have EW := hid hW;clear h2 h3 h4;obtain ⟨o0,o1,o2,o3,o4,o5,o6,o7,o8,o9,o10,o11⟩ := tw5 h1;rw [← hW] at o0 o1 o2 o3 o4 o5 o6 o7 o8 o9 o10 o11;clear h1 hW;have HC1 := hid (H1 W0 G.out);have HC2 := hid H2;have HC3 := hid H3;clear H1 H2 H3;go_enter Tryz.func8,Tryz.ntmps8;go_wp2_with fail;rw [EW.out];clear EW o0 o1 o2 o3 o4 o5 o6 o7 o8 o9 o10 o11;refine HC1.out.mono ?_;rintro e w1 ⟨rfl,b⟩;replace B1 := hid (box5 B1.out b);replace B2 := hid (box5 B2.out b);replace B3 := hid (box5 B3.out b);replace G := hid (below_step G.out b);clear b HC1;obtain ⟨V0,hV⟩ : ∃ V0,w1.setCell ⟨w.heap.size + 1 + 1,4,none⟩ (.int .i64 V) = V0 := ⟨_,rfl⟩
 have g1 : V0.heap[w.heap.size]? = some (opo5 4 a0 a1 b0 b1 c0 c1 N M S vk vl) := by rw [← hV];exact (((Only.refl _ _).set _ _).2 _ (by omega)).trans B1.out
 have g2 : V0.heap[w.heap.size + 1]? = some anz5 := by rw [← hV];exact (((Only.refl _ _).set _ _).2 _ (by omega)).trans B2.out
 have g3 : V0.heap[w.heap.size + 1 + 1]? = some (anc5 (.bool false) (.slice none 0 0) (.bool false) (.slice none 0 0) V 0 0 ⟨#[]⟩ 0) := by
  rw [← hV];have := B3.out;simp [World.setCell,Array.getElem?_modify,this]
 have g4 : Below w.heap.size w V0 := by rw [← hV];exact G.out.setCell (p := ⟨w.heap.size + 1 + 1,4,none⟩) (by show w.heap.size ≤ w.heap.size + 1 + 1;omega) _
 obtain ⟨o0,o1,o2,o3,o4,-⟩ := tw5 B1.out;obtain ⟨⟨z0,z1,z2,z3,z4,z5,z6,z7,z8⟩,zf⟩ := zKA B3.out;have zf4 := zf 4;have EV := hid hV;have HCN := hid (HC2.out V0 g4);clear hV zf;go_wp2_with fail;rw [EV.out];clear EV o0 o1 o2 o3 o4 z0 z1 z2 z3 z4 z5 z6 z7 z8 zf4 B1 B2 B3 G HC2;have B1 := hid g1;have B2 := hid g2;have B3 := hid g3;have G := hid g4;clear g1 g2 g3 g4;refine HCN.out.mono ?_;rintro e w2 ⟨rfl,b⟩;replace B1 := hid (box5 B1.out b);replace B2 := hid (box5 B2.out b);replace B3 := hid (box5 B3.out b);replace G := hid (below_step G.out b);clear b HCN;obtain ⟨V1,hV⟩ : ∃ V1,w2.setCell ⟨w.heap.size + 1 + 1,5,none⟩ (.int .i64 P) = V1 := ⟨_,rfl⟩
 have g1 : V1.heap[w.heap.size]? = some (opo5 4 a0 a1 b0 b1 c0 c1 N M S vk vl) := by rw [← hV];exact (((Only.refl _ _).set _ _).2 _ (by omega)).trans B1.out
 have g2 : V1.heap[w.heap.size + 1]? = some anz5 := by rw [← hV];exact (((Only.refl _ _).set _ _).2 _ (by omega)).trans B2.out
 have g3 : V1.heap[w.heap.size + 1 + 1]? = some (anc5 (.bool false) (.slice none 0 0) (.bool false) (.slice none 0 0) V P 0 ⟨#[]⟩ 0) := by
  rw [← hV];have := B3.out;simp [World.setCell,Array.getElem?_modify,this]
 have g4 : Below w.heap.size w V1 := by rw [← hV];exact G.out.setCell (p := ⟨w.heap.size + 1 + 1,5,none⟩) (by show w.heap.size ≤ w.heap.size + 1 + 1;omega) _
 obtain ⟨o0,o1,o2,o3,o4,-⟩ := tw5 B1.out;obtain ⟨⟨z0,z1,z2,z3,z4,z5,z6,z7,z8⟩,zf⟩ := zKA B3.out;have zf4 := zf 5;have EV := hid hV;have HCN := hid (HC3.out V1 g4);clear hV zf;go_wp2_with fail;rw [EV.out];clear EV o0 o1 o2 o3 o4 z0 z1 z2 z3 z4 z5 z6 z7 z8 zf4 B1 B2 B3 G HC3;have B1 := hid g1;have B2 := hid g2;have B3 := hid g3;have G := hid g4;clear g1 g2 g3 g4;refine HCN.out.mono ?_;rintro e w3 ⟨rfl,b⟩;replace B1 := hid (box5 B1.out b);replace B2 := hid (box5 B2.out b);replace B3 := hid (box5 B3.out b);replace G := hid (below_step G.out b);clear b HCN;obtain ⟨o0,-⟩ := tw5 B1.out;obtain ⟨⟨r0,r1,r2,r3,r4,r5,r6,r7,r8⟩,rf⟩ := zKA B2.out;obtain ⟨⟨z0,z1,z2,z3,z4,z5,z6,z7,z8⟩,zf⟩ := zKA B3.out;have rf0 := rf 0;have zf0 := zf 0;have rf1 := rf 1;have zf1 := zf 1;have rf2 := rf 2;have zf2 := zf 2;have rf3 := rf 3;have zf3 := zf 3;have rf4 := rf 4;have zf4 := zf 4;have rf5 := rf 5;have zf5 := zf 5;have rf6 := rf 6;have zf6 := zf 6;have rf7 := rf 7;have zf7 := zf 7;have rf8 := rf 8;have zf8 := zf 8;clear rf zf;go_wp2;obtain ⟨WX,hWX⟩ : ∃ WX,(w3.setCell ⟨w.heap.size + 1 + 1,6,none⟩ (.int .i64 Q)) = WX := ⟨_,rfl⟩
 have oX : Only (w.heap.size + 1 + 1) w3 WX := by rw [← hWX];exact ((Only.refl _ _).set _ _)
 have mX : Mid5 w.heap.size (w.heap.size + 1 + 1 + 1) w3 WX := by rw [← hWX];exact ((Mid5.refl _ _ _).set (by omega) (by omega) _ _)
 rw [hWX];clear hWX;have nb : w.heap.size + 1 ≠ w.heap.size + 1 + 1 := by omega
 exact bodyPost_ret (zeA ((oX.cell nb).trans r0) ((oX.cell nb).trans r1) ((oX.cell nb).trans r2) ((oX.cell nb).trans r3) ((oX.cell nb).trans r4) ((oX.cell nb).trans r5) ((oX.cell nb).trans r6) ((oX.cell nb).trans r7) ((oX.cell nb).trans r8) _ (by rfl)) rfl (zGA (B := W0.heap.size) (by omega) (zLA _ _ 0) (zLA _ _ 0) G.out (mX.nine (by omega) (by omega) _ _ _ _ _ _ _ _ _))
theorem zaA {w : World} {a0 a1 b0 b1 c0 c1 vk vl : Value} {N M : Int} {S : ByteArray} {kind z y V P Q E : Int} {T : ByteArray} (hk : 14 ≤ kind) (H : ∀ w',Below w.heap.size w w' → Calls Tryz.prog 52 #[.agg #[.int .i64 kind,a0,a1,b0,b1,c0,c1,.int .i64 N,.int .i64 M,.string S,vk,vl]] w' (AnsP w' z y V P Q T E)) :
  Calls Tryz.prog 8 #[.agg #[.int .i64 kind,a0,a1,b0,b1,c0,c1,.int .i64 N,.int .i64 M,.string S,vk,vl]] w (AnsP w z y V P Q T E) := by
 have k1 : (kind == 1) = false := by rw [beq_eq_false_iff_ne];omega
 have k2 : (kind == 2) = false := by rw [beq_eq_false_iff_ne];omega
 have k3 : (kind == 3) = false := by rw [beq_eq_false_iff_ne];omega
 have k4 : (kind == 4) = false := by rw [beq_eq_false_iff_ne];omega
 have k5 : (kind == 5) = false := by rw [beq_eq_false_iff_ne];omega
 have k6 : (kind == 6) = false := by rw [beq_eq_false_iff_ne];omega
 have k7 : (kind == 7) = false := by rw [beq_eq_false_iff_ne];omega
 have k8 : (kind == 8) = false := by rw [beq_eq_false_iff_ne];omega
 have k9 : (kind == 9) = false := by rw [beq_eq_false_iff_ne];omega
 have k10 : (kind == 10) = false := by rw [beq_eq_false_iff_ne];omega
 have k11 : (kind == 11) = false := by rw [beq_eq_false_iff_ne];omega
 have k12 : (kind == 12) = false := by rw [beq_eq_false_iff_ne];omega
 have k13 : (kind == 13) = false := by rw [beq_eq_false_iff_ne];omega
 obtain ⟨W0,hW⟩ : ∃ W0,((w.alloc (opo5 kind a0 a1 b0 b1 c0 c1 N M S vk vl)).alloc anz5).alloc anz5 = W0 := ⟨_,rfl⟩
 obtain ⟨h1,h2,h3,h4,SZ⟩ := tri5 w (opo5 kind a0 a1 b0 b1 c0 c1 N M S vk vl) anz5 anz5;rw [hW] at h1 h2 h3 h4 SZ;have B1 := hid h1;have B2 := hid h2;have B3 := hid h3;have G := hid h4;have EW := hid hW;clear h2 h3 h4;obtain ⟨o0,o1,o2,o3,o4,o5,o6,o7,o8,o9,o10,o11⟩ := tw5 h1;rw [← hW] at o0 o1 o2 o3 o4 o5 o6 o7 o8 o9 o10 o11;clear h1 hW;have HC := hid (H W0 G.out);clear H;go_enter Tryz.func8,Tryz.ntmps8;go_wp2_with fail;rw [EW.out];clear EW o0 o1 o2 o3 o4 o5 o6 o7 o8 o9 o10 o11;refine HC.out.mono ?_;rintro e w1 ⟨x0,x1,y0,y1,k,rfl,mz,my,b⟩;obtain ⟨nz,xz,az,cz,rfl,rfl⟩ := zUB mz;obtain ⟨ny,xy,ay,cy,rfl,rfl⟩ := zUB my;have MZ := hid mz;have MY := hid my;replace B1 := hid (box5 B1.out b);replace B2 := hid (box5 B2.out b);replace B3 := hid (box5 B3.out b);replace G := hid (below_step G.out b);clear b HC mz my;obtain ⟨⟨r0,r1,r2,r3,r4,r5,r6,r7,r8⟩,rf⟩ := zKA B2.out;have rf0 := rf 0;have rf1 := rf 1;have rf2 := rf 2;have rf3 := rf 3;have rf4 := rf 4;have rf5 := rf 5;have rf6 := rf 6;have rf7 := rf 7;have rf8 := rf 8;clear rf;go_wp2;exact bodyPost_ret (zeA r0 r1 r2 r3 r4 r5 r6 r7 r8 _ (by rfl)) rfl (zGA (B := W0.heap.size) (by omega) MZ.out MY.out G.out ((Mid5.refl _ _ _).nine (by omega) (by omega) _ _ _ _ _ _ _ _ _))
theorem asked_none {w : World} {a0 a1 b0 b1 c0 c1 vk vl : Value} {N M : Int} {S : ByteArray} {kind : Int} (hk : kind < 1 ∨ 21 < kind) (hlo : kind < 14) :
  Calls Tryz.prog 8 #[.agg #[.int .i64 kind,a0,a1,b0,b1,c0,c1,.int .i64 N,.int .i64 M,.string S,vk,vl]] w (AnsP w 0 0 0 0 0 ⟨#[]⟩ 0) := by
 have k1 : (kind == 1) = false := by rw [beq_eq_false_iff_ne];omega
 have k2 : (kind == 2) = false := by rw [beq_eq_false_iff_ne];omega
 have k3 : (kind == 3) = false := by rw [beq_eq_false_iff_ne];omega
 have k4 : (kind == 4) = false := by rw [beq_eq_false_iff_ne];omega
 have k5 : (kind == 5) = false := by rw [beq_eq_false_iff_ne];omega
 have k6 : (kind == 6) = false := by rw [beq_eq_false_iff_ne];omega
 have k7 : (kind == 7) = false := by rw [beq_eq_false_iff_ne];omega
 have k8 : (kind == 8) = false := by rw [beq_eq_false_iff_ne];omega
 have k9 : (kind == 9) = false := by rw [beq_eq_false_iff_ne];omega
 have k10 : (kind == 10) = false := by rw [beq_eq_false_iff_ne];omega
 have k11 : (kind == 11) = false := by rw [beq_eq_false_iff_ne];omega
 have k12 : (kind == 12) = false := by rw [beq_eq_false_iff_ne];omega
 have k13 : (kind == 13) = false := by rw [beq_eq_false_iff_ne];omega
 have kk : ¬ (14 ≤ kind) := by omega
 obtain ⟨W0,hW⟩ : ∃ W0,((w.alloc (opo5 kind a0 a1 b0 b1 c0 c1 N M S vk vl)).alloc anz5).alloc anz5 = W0 := ⟨_,rfl⟩
 obtain ⟨h1,h2,h3,h4,SZ⟩ := tri5 w (opo5 kind a0 a1 b0 b1 c0 c1 N M S vk vl) anz5 anz5;rw [hW] at h1 h2 h3 h4 SZ;have B1 := hid h1;have B2 := hid h2;have B3 := hid h3;have G := hid h4;have EW := hid hW;clear h2 h3 h4;obtain ⟨o0,o1,o2,o3,o4,o5,o6,o7,o8,o9,o10,o11⟩ := tw5 h1;rw [← hW] at o0 o1 o2 o3 o4 o5 o6 o7 o8 o9 o10 o11;obtain ⟨⟨r0,r1,r2,r3,r4,r5,r6,r7,r8⟩,rf⟩ := zKA B2.out;obtain ⟨⟨z0,z1,z2,z3,z4,z5,z6,z7,z8⟩,zf⟩ := zKA B3.out;have rf0 := rf 0;have rf1 := rf 1;have rf2 := rf 2;have rf3 := rf 3;have rf4 := rf 4;have rf5 := rf 5;have rf6 := rf 6;have rf7 := rf 7;have rf8 := rf 8;rw [← hW] at r0 z0 rf0 r1 z1 rf1 r2 z2 rf2 r3 z3 rf3 r4 z4 rf4 r5 z5 rf5 r6 z6 rf6 r7 z7 rf7 r8 z8 rf8;clear h1 hW rf zf;go_enter Tryz.func8,Tryz.ntmps8;go_wp2_with fail;rw [EW.out] at r0 r1 r2 r3 r4 r5 r6 r7 r8 ⊢;exact bodyPost_ret (asked_back0 r0 r1 r2 r3 r4 r5 r6 r7 r8 _ (by rfl)) rfl (zGA (B := W0.heap.size) (by omega) (zLA _ _ 0) (zLA _ _ 0) G.out (Mid5.refl _ _ _))
theorem zDE {w : World} {a0 a1 b0 b1 c0 c1 vk vl : Value} {N M : Int} {S : ByteArray} {E z y : Int} {k l : Nat} (H : ∀ w',Below w.heap.size w w' → Calls Tryz.prog 82 #[.agg #[a0,a1],.agg #[b0,b1]] w' (zZA E w' z y k l)) :
  Calls Tryz.prog 52 #[.agg #[.int .i64 14,a0,a1,b0,b1,c0,c1,.int .i64 N,.int .i64 M,.string S,vk,vl]] w (AnsP w z y 0 0 0 ⟨#[]⟩ E) := by
 have k14 : ((14 : Int) == 14) = true := by decide
 obtain ⟨W0,hW⟩ : ∃ W0,((w.alloc (opo5 14 a0 a1 b0 b1 c0 c1 N M S vk vl)).alloc anz5).alloc anz5 = W0 := ⟨_,rfl⟩
 obtain ⟨h1,h2,h3,h4,SZ⟩ := tri5 w (opo5 14 a0 a1 b0 b1 c0 c1 N M S vk vl) anz5 anz5;rw [hW] at h1 h2 h3 h4 SZ;have B1 := hid h1;have B2 := hid h2;have B3 := hid h3;have G := hid h4;have EW := hid hW;clear h2 h3 h4;obtain ⟨o0,o1,o2,o3,o4,o5,o6,o7,o8,o9,o10,o11⟩ := tw5 h1;rw [← hW] at o0 o1 o2 o3 o4 o5 o6 o7 o8 o9 o10 o11;clear h1 hW;have HC := hid (H W0 G.out);clear H;go_enter Tryz.func52,Tryz.ntmps52;go_wp2_with fail;rw [EW.out];clear EW o0 o1 o2 o3 o4 o5 o6 o7 o8 o9 o10 o11;refine HC.out.mono ?_;rintro e w1 ⟨r,q,rfl,mz,my,b⟩;obtain ⟨nz,xz,az,cz,rfl⟩ := mz.parts;have MZ := hid mz;obtain ⟨ny,xy,ay,cy,rfl⟩ := my.parts;have MY := hid my;replace B1 := hid (box5 B1.out b);replace B2 := hid (box5 B2.out b);replace B3 := hid (box5 B3.out b);replace G := hid (below_step G.out b);clear b HC mz my;obtain ⟨⟨r0,r1,r2,r3,r4,r5,r6,r7,r8⟩,rf⟩ := zKA B2.out;obtain ⟨⟨z0,z1,z2,z3,z4,z5,z6,z7,z8⟩,zf⟩ := zKA B3.out;have rf0 := rf 0;have zf0 := zf 0;have rf1 := rf 1;have zf1 := zf 1;have rf2 := rf 2;have zf2 := zf 2;have rf3 := rf 3;have zf3 := zf 3;have rf4 := rf 4;have zf4 := zf 4;have rf5 := rf 5;have zf5 := zf 5;have rf6 := rf 6;have zf6 := zf 6;have rf7 := rf 7;have zf7 := zf 7;have rf8 := rf 8;have zf8 := zf 8;clear rf zf;go_wp2;obtain ⟨WX,hWX⟩ : ∃ WX,(((((w1.setCell ⟨w.heap.size + 1 + 1,0,none⟩ (.bool nz)).setCell ⟨w.heap.size + 1 + 1,1,none⟩ (.slice az xz.length cz)).setCell ⟨w.heap.size + 1 + 1,2,none⟩ (.bool ny)).setCell ⟨w.heap.size + 1 + 1,3,none⟩ (.slice ay xy.length cy)).setCell ⟨w.heap.size + 1 + 1,8,none⟩ (.int .i64 E)) = WX := ⟨_,rfl⟩
 have oX : Only (w.heap.size + 1 + 1) w1 WX := by rw [← hWX];exact ((((((Only.refl _ _).set _ _).set _ _).set _ _).set _ _).set _ _)
 have mX : Mid5 w.heap.size (w.heap.size + 1 + 1 + 1) w1 WX := by rw [← hWX];exact ((((((Mid5.refl _ _ _).set (by omega) (by omega) _ _).set (by omega) (by omega) _ _).set (by omega) (by omega) _ _).set (by omega) (by omega) _ _).set (by omega) (by omega) _ _)
 rw [hWX];clear hWX;have nb : w.heap.size + 1 ≠ w.heap.size + 1 + 1 := by omega
 exact bodyPost_ret (zjA ((oX.cell nb).trans r0) ((oX.cell nb).trans r1) ((oX.cell nb).trans r2) ((oX.cell nb).trans r3) ((oX.cell nb).trans r4) ((oX.cell nb).trans r5) ((oX.cell nb).trans r6) ((oX.cell nb).trans r7) ((oX.cell nb).trans r8) _ (by rfl)) rfl (zGA (B := W0.heap.size) (by omega) MZ.out MY.out G.out (mX.nine (by omega) (by omega) _ _ _ _ _ _ _ _ _))
theorem zCE {w : World} {a0 a1 b0 b1 c0 c1 vk vl : Value} {N M : Int} {S : ByteArray} {E z y : Int} {k l : Nat} (H : ∀ w',Below w.heap.size w w' → Calls Tryz.prog 83 #[.agg #[a0,a1],.agg #[b0,b1]] w' (zZA E w' z y k l)) :
  Calls Tryz.prog 52 #[.agg #[.int .i64 15,a0,a1,b0,b1,c0,c1,.int .i64 N,.int .i64 M,.string S,vk,vl]] w (AnsP w z y 0 0 0 ⟨#[]⟩ E) := by
 have k14 : ((15 : Int) == 14) = false := by decide
 have k15 : ((15 : Int) == 15) = true := by decide
 obtain ⟨W0,hW⟩ : ∃ W0,((w.alloc (opo5 15 a0 a1 b0 b1 c0 c1 N M S vk vl)).alloc anz5).alloc anz5 = W0 := ⟨_,rfl⟩
 obtain ⟨h1,h2,h3,h4,SZ⟩ := tri5 w (opo5 15 a0 a1 b0 b1 c0 c1 N M S vk vl) anz5 anz5;rw [hW] at h1 h2 h3 h4 SZ;have B1 := hid h1;have B2 := hid h2;have B3 := hid h3;have G := hid h4;have EW := hid hW;clear h2 h3 h4;obtain ⟨o0,o1,o2,o3,o4,o5,o6,o7,o8,o9,o10,o11⟩ := tw5 h1;rw [← hW] at o0 o1 o2 o3 o4 o5 o6 o7 o8 o9 o10 o11;clear h1 hW;have HC := hid (H W0 G.out);clear H;go_enter Tryz.func52,Tryz.ntmps52;go_wp2_with fail;rw [EW.out];clear EW o0 o1 o2 o3 o4 o5 o6 o7 o8 o9 o10 o11;refine HC.out.mono ?_;rintro e w1 ⟨r,q,rfl,mz,my,b⟩;obtain ⟨nz,xz,az,cz,rfl⟩ := mz.parts;have MZ := hid mz;obtain ⟨ny,xy,ay,cy,rfl⟩ := my.parts;have MY := hid my;replace B1 := hid (box5 B1.out b);replace B2 := hid (box5 B2.out b);replace B3 := hid (box5 B3.out b);replace G := hid (below_step G.out b);clear b HC mz my;obtain ⟨⟨r0,r1,r2,r3,r4,r5,r6,r7,r8⟩,rf⟩ := zKA B2.out;obtain ⟨⟨z0,z1,z2,z3,z4,z5,z6,z7,z8⟩,zf⟩ := zKA B3.out;have rf0 := rf 0;have zf0 := zf 0;have rf1 := rf 1;have zf1 := zf 1;have rf2 := rf 2;have zf2 := zf 2;have rf3 := rf 3;have zf3 := zf 3;have rf4 := rf 4;have zf4 := zf 4;have rf5 := rf 5;have zf5 := zf 5;have rf6 := rf 6;have zf6 := zf 6;have rf7 := rf 7;have zf7 := zf 7;have rf8 := rf 8;have zf8 := zf 8;clear rf zf;go_wp2;obtain ⟨WX,hWX⟩ : ∃ WX,(((((w1.setCell ⟨w.heap.size + 1 + 1,0,none⟩ (.bool nz)).setCell ⟨w.heap.size + 1 + 1,1,none⟩ (.slice az xz.length cz)).setCell ⟨w.heap.size + 1 + 1,2,none⟩ (.bool ny)).setCell ⟨w.heap.size + 1 + 1,3,none⟩ (.slice ay xy.length cy)).setCell ⟨w.heap.size + 1 + 1,8,none⟩ (.int .i64 E)) = WX := ⟨_,rfl⟩
 have oX : Only (w.heap.size + 1 + 1) w1 WX := by rw [← hWX];exact ((((((Only.refl _ _).set _ _).set _ _).set _ _).set _ _).set _ _)
 have mX : Mid5 w.heap.size (w.heap.size + 1 + 1 + 1) w1 WX := by rw [← hWX];exact ((((((Mid5.refl _ _ _).set (by omega) (by omega) _ _).set (by omega) (by omega) _ _).set (by omega) (by omega) _ _).set (by omega) (by omega) _ _).set (by omega) (by omega) _ _)
 rw [hWX];clear hWX;have nb : w.heap.size + 1 ≠ w.heap.size + 1 + 1 := by omega
 exact bodyPost_ret (zjA ((oX.cell nb).trans r0) ((oX.cell nb).trans r1) ((oX.cell nb).trans r2) ((oX.cell nb).trans r3) ((oX.cell nb).trans r4) ((oX.cell nb).trans r5) ((oX.cell nb).trans r6) ((oX.cell nb).trans r7) ((oX.cell nb).trans r8) _ (by rfl)) rfl (zGA (B := W0.heap.size) (by omega) MZ.out MY.out G.out (mX.nine (by omega) (by omega) _ _ _ _ _ _ _ _ _))
theorem zBE {w : World} {a0 a1 b0 b1 c0 c1 vk vl : Value} {N M : Int} {S : ByteArray} {E z y : Int} {k l : Nat} (H : ∀ w',Below w.heap.size w w' → Calls Tryz.prog 84 #[.agg #[a0,a1],.agg #[b0,b1]] w' (zZA E w' z y k l)) :
  Calls Tryz.prog 52 #[.agg #[.int .i64 16,a0,a1,b0,b1,c0,c1,.int .i64 N,.int .i64 M,.string S,vk,vl]] w (AnsP w z y 0 0 0 ⟨#[]⟩ E) := by
 have k14 : ((16 : Int) == 14) = false := by decide
 have k15 : ((16 : Int) == 15) = false := by decide
 have k16 : ((16 : Int) == 16) = true := by decide
 obtain ⟨W0,hW⟩ : ∃ W0,((w.alloc (opo5 16 a0 a1 b0 b1 c0 c1 N M S vk vl)).alloc anz5).alloc anz5 = W0 := ⟨_,rfl⟩
 obtain ⟨h1,h2,h3,h4,SZ⟩ := tri5 w (opo5 16 a0 a1 b0 b1 c0 c1 N M S vk vl) anz5 anz5;rw [hW] at h1 h2 h3 h4 SZ;have B1 := hid h1;have B2 := hid h2;have B3 := hid h3;have G := hid h4;have EW := hid hW;clear h2 h3 h4;obtain ⟨o0,o1,o2,o3,o4,o5,o6,o7,o8,o9,o10,o11⟩ := tw5 h1;rw [← hW] at o0 o1 o2 o3 o4 o5 o6 o7 o8 o9 o10 o11;clear h1 hW;have HC := hid (H W0 G.out);clear H;go_enter Tryz.func52,Tryz.ntmps52;go_wp2_with fail;rw [EW.out];clear EW o0 o1 o2 o3 o4 o5 o6 o7 o8 o9 o10 o11;refine HC.out.mono ?_;rintro e w1 ⟨r,q,rfl,mz,my,b⟩;obtain ⟨nz,xz,az,cz,rfl⟩ := mz.parts;have MZ := hid mz;obtain ⟨ny,xy,ay,cy,rfl⟩ := my.parts;have MY := hid my;replace B1 := hid (box5 B1.out b);replace B2 := hid (box5 B2.out b);replace B3 := hid (box5 B3.out b);replace G := hid (below_step G.out b);clear b HC mz my;obtain ⟨⟨r0,r1,r2,r3,r4,r5,r6,r7,r8⟩,rf⟩ := zKA B2.out;obtain ⟨⟨z0,z1,z2,z3,z4,z5,z6,z7,z8⟩,zf⟩ := zKA B3.out;have rf0 := rf 0;have zf0 := zf 0;have rf1 := rf 1;have zf1 := zf 1;have rf2 := rf 2;have zf2 := zf 2;have rf3 := rf 3;have zf3 := zf 3;have rf4 := rf 4;have zf4 := zf 4;have rf5 := rf 5;have zf5 := zf 5;have rf6 := rf 6;have zf6 := zf 6;have rf7 := rf 7;have zf7 := zf 7;have rf8 := rf 8;have zf8 := zf 8;clear rf zf;go_wp2;obtain ⟨WX,hWX⟩ : ∃ WX,(((((w1.setCell ⟨w.heap.size + 1 + 1,0,none⟩ (.bool nz)).setCell ⟨w.heap.size + 1 + 1,1,none⟩ (.slice az xz.length cz)).setCell ⟨w.heap.size + 1 + 1,2,none⟩ (.bool ny)).setCell ⟨w.heap.size + 1 + 1,3,none⟩ (.slice ay xy.length cy)).setCell ⟨w.heap.size + 1 + 1,8,none⟩ (.int .i64 E)) = WX := ⟨_,rfl⟩
 have oX : Only (w.heap.size + 1 + 1) w1 WX := by rw [← hWX];exact ((((((Only.refl _ _).set _ _).set _ _).set _ _).set _ _).set _ _)
 have mX : Mid5 w.heap.size (w.heap.size + 1 + 1 + 1) w1 WX := by rw [← hWX];exact ((((((Mid5.refl _ _ _).set (by omega) (by omega) _ _).set (by omega) (by omega) _ _).set (by omega) (by omega) _ _).set (by omega) (by omega) _ _).set (by omega) (by omega) _ _)
 rw [hWX];clear hWX;have nb : w.heap.size + 1 ≠ w.heap.size + 1 + 1 := by omega
 exact bodyPost_ret (zjA ((oX.cell nb).trans r0) ((oX.cell nb).trans r1) ((oX.cell nb).trans r2) ((oX.cell nb).trans r3) ((oX.cell nb).trans r4) ((oX.cell nb).trans r5) ((oX.cell nb).trans r6) ((oX.cell nb).trans r7) ((oX.cell nb).trans r8) _ (by rfl)) rfl (zGA (B := W0.heap.size) (by omega) MZ.out MY.out G.out (mX.nine (by omega) (by omega) _ _ _ _ _ _ _ _ _))
theorem zkC {w : World} {a0 a1 b0 b1 c0 c1 vk vl : Value} {N M : Int} {S : ByteArray} {E z : Int} {k : Nat} (H : ∀ w',Below w.heap.size w w' → Calls Tryz.prog 85 #[.agg #[a0,a1],.agg #[b0,b1]] w' (zMA E w' z k)) :
  Calls Tryz.prog 52 #[.agg #[.int .i64 17,a0,a1,b0,b1,c0,c1,.int .i64 N,.int .i64 M,.string S,vk,vl]] w (AnsP w z 0 0 0 0 ⟨#[]⟩ E) := by
 have k14 : ((17 : Int) == 14) = false := by decide
 have k15 : ((17 : Int) == 15) = false := by decide
 have k16 : ((17 : Int) == 16) = false := by decide
 have k17 : ((17 : Int) == 17) = true := by decide
 obtain ⟨W0,hW⟩ : ∃ W0,((w.alloc (opo5 17 a0 a1 b0 b1 c0 c1 N M S vk vl)).alloc anz5).alloc anz5 = W0 := ⟨_,rfl⟩
 obtain ⟨h1,h2,h3,h4,SZ⟩ := tri5 w (opo5 17 a0 a1 b0 b1 c0 c1 N M S vk vl) anz5 anz5;rw [hW] at h1 h2 h3 h4 SZ;have B1 := hid h1;have B2 := hid h2;have B3 := hid h3;have G := hid h4;have EW := hid hW;clear h2 h3 h4;obtain ⟨o0,o1,o2,o3,o4,o5,o6,o7,o8,o9,o10,o11⟩ := tw5 h1;rw [← hW] at o0 o1 o2 o3 o4 o5 o6 o7 o8 o9 o10 o11;clear h1 hW;have HC := hid (H W0 G.out);clear H;go_enter Tryz.func52,Tryz.ntmps52;go_wp2_with fail;rw [EW.out];clear EW o0 o1 o2 o3 o4 o5 o6 o7 o8 o9 o10 o11;refine HC.out.mono ?_;rintro e w1 ⟨r,rfl,mz,b⟩;obtain ⟨nz,xz,az,cz,rfl⟩ := mz.parts;have MZ := hid mz;replace B1 := hid (box5 B1.out b);replace B2 := hid (box5 B2.out b);replace B3 := hid (box5 B3.out b);replace G := hid (below_step G.out b);clear b HC mz;obtain ⟨⟨r0,r1,r2,r3,r4,r5,r6,r7,r8⟩,rf⟩ := zKA B2.out;obtain ⟨⟨z0,z1,z2,z3,z4,z5,z6,z7,z8⟩,zf⟩ := zKA B3.out;have rf0 := rf 0;have zf0 := zf 0;have rf1 := rf 1;have zf1 := zf 1;have rf2 := rf 2;have zf2 := zf 2;have rf3 := rf 3;have zf3 := zf 3;have rf4 := rf 4;have zf4 := zf 4;have rf5 := rf 5;have zf5 := zf 5;have rf6 := rf 6;have zf6 := zf 6;have rf7 := rf 7;have zf7 := zf 7;have rf8 := rf 8;have zf8 := zf 8;clear rf zf;go_wp2;obtain ⟨WX,hWX⟩ : ∃ WX,(((w1.setCell ⟨w.heap.size + 1 + 1,0,none⟩ (.bool nz)).setCell ⟨w.heap.size + 1 + 1,1,none⟩ (.slice az xz.length cz)).setCell ⟨w.heap.size + 1 + 1,8,none⟩ (.int .i64 E)) = WX := ⟨_,rfl⟩
 have oX : Only (w.heap.size + 1 + 1) w1 WX := by rw [← hWX];exact ((((Only.refl _ _).set _ _).set _ _).set _ _)
 have mX : Mid5 w.heap.size (w.heap.size + 1 + 1 + 1) w1 WX := by rw [← hWX];exact ((((Mid5.refl _ _ _).set (by omega) (by omega) _ _).set (by omega) (by omega) _ _).set (by omega) (by omega) _ _)
 rw [hWX];clear hWX;have nb : w.heap.size + 1 ≠ w.heap.size + 1 + 1 := by omega
 exact bodyPost_ret (zjA ((oX.cell nb).trans r0) ((oX.cell nb).trans r1) ((oX.cell nb).trans r2) ((oX.cell nb).trans r3) ((oX.cell nb).trans r4) ((oX.cell nb).trans r5) ((oX.cell nb).trans r6) ((oX.cell nb).trans r7) ((oX.cell nb).trans r8) _ (by rfl)) rfl (zGA (B := W0.heap.size) (by omega) MZ.out (zLA _ _ 0) G.out (mX.nine (by omega) (by omega) _ _ _ _ _ _ _ _ _))
theorem zAE {w : World} {a0 a1 b0 b1 c0 c1 vk vl : Value} {N M : Int} {S : ByteArray} {E z : Int} {k : Nat} (H : ∀ w',Below w.heap.size w w' → Calls Tryz.prog 86 #[.agg #[a0,a1],.agg #[b0,b1]] w' (zMA E w' z k)) :
  Calls Tryz.prog 52 #[.agg #[.int .i64 18,a0,a1,b0,b1,c0,c1,.int .i64 N,.int .i64 M,.string S,vk,vl]] w (AnsP w z 0 0 0 0 ⟨#[]⟩ E) := by
 have k14 : ((18 : Int) == 14) = false := by decide
 have k15 : ((18 : Int) == 15) = false := by decide
 have k16 : ((18 : Int) == 16) = false := by decide
 have k17 : ((18 : Int) == 17) = false := by decide
 have k18 : ((18 : Int) == 18) = true := by decide
 obtain ⟨W0,hW⟩ : ∃ W0,((w.alloc (opo5 18 a0 a1 b0 b1 c0 c1 N M S vk vl)).alloc anz5).alloc anz5 = W0 := ⟨_,rfl⟩
 obtain ⟨h1,h2,h3,h4,SZ⟩ := tri5 w (opo5 18 a0 a1 b0 b1 c0 c1 N M S vk vl) anz5 anz5;rw [hW] at h1 h2 h3 h4 SZ;have B1 := hid h1;have B2 := hid h2;have B3 := hid h3;have G := hid h4;have EW := hid hW;clear h2 h3 h4;obtain ⟨o0,o1,o2,o3,o4,o5,o6,o7,o8,o9,o10,o11⟩ := tw5 h1;rw [← hW] at o0 o1 o2 o3 o4 o5 o6 o7 o8 o9 o10 o11;clear h1 hW;have HC := hid (H W0 G.out);clear H;go_enter Tryz.func52,Tryz.ntmps52;go_wp2_with fail;rw [EW.out];clear EW o0 o1 o2 o3 o4 o5 o6 o7 o8 o9 o10 o11;refine HC.out.mono ?_;rintro e w1 ⟨r,rfl,mz,b⟩;obtain ⟨nz,xz,az,cz,rfl⟩ := mz.parts;have MZ := hid mz;replace B1 := hid (box5 B1.out b);replace B2 := hid (box5 B2.out b);replace B3 := hid (box5 B3.out b);replace G := hid (below_step G.out b);clear b HC mz;obtain ⟨⟨r0,r1,r2,r3,r4,r5,r6,r7,r8⟩,rf⟩ := zKA B2.out;obtain ⟨⟨z0,z1,z2,z3,z4,z5,z6,z7,z8⟩,zf⟩ := zKA B3.out;have rf0 := rf 0;have zf0 := zf 0;have rf1 := rf 1;have zf1 := zf 1;have rf2 := rf 2;have zf2 := zf 2;have rf3 := rf 3;have zf3 := zf 3;have rf4 := rf 4;have zf4 := zf 4;have rf5 := rf 5;have zf5 := zf 5;have rf6 := rf 6;have zf6 := zf 6;have rf7 := rf 7;have zf7 := zf 7;have rf8 := rf 8;have zf8 := zf 8;clear rf zf;go_wp2;obtain ⟨WX,hWX⟩ : ∃ WX,(((w1.setCell ⟨w.heap.size + 1 + 1,0,none⟩ (.bool nz)).setCell ⟨w.heap.size + 1 + 1,1,none⟩ (.slice az xz.length cz)).setCell ⟨w.heap.size + 1 + 1,8,none⟩ (.int .i64 E)) = WX := ⟨_,rfl⟩
 have oX : Only (w.heap.size + 1 + 1) w1 WX := by rw [← hWX];exact ((((Only.refl _ _).set _ _).set _ _).set _ _)
 have mX : Mid5 w.heap.size (w.heap.size + 1 + 1 + 1) w1 WX := by rw [← hWX];exact ((((Mid5.refl _ _ _).set (by omega) (by omega) _ _).set (by omega) (by omega) _ _).set (by omega) (by omega) _ _)
 rw [hWX];clear hWX;have nb : w.heap.size + 1 ≠ w.heap.size + 1 + 1 := by omega
 exact bodyPost_ret (zjA ((oX.cell nb).trans r0) ((oX.cell nb).trans r1) ((oX.cell nb).trans r2) ((oX.cell nb).trans r3) ((oX.cell nb).trans r4) ((oX.cell nb).trans r5) ((oX.cell nb).trans r6) ((oX.cell nb).trans r7) ((oX.cell nb).trans r8) _ (by rfl)) rfl (zGA (B := W0.heap.size) (by omega) MZ.out (zLA _ _ 0) G.out (mX.nine (by omega) (by omega) _ _ _ _ _ _ _ _ _))
theorem zzD {w : World} {a0 a1 b0 b1 c0 c1 vk vl : Value} {N M : Int} {S : ByteArray} {E z : Int} {k : Nat} (H : ∀ w',Below w.heap.size w w' → Calls Tryz.prog 87 #[.agg #[a0,a1],.agg #[b0,b1]] w' (zMA E w' z k)) :
  Calls Tryz.prog 52 #[.agg #[.int .i64 19,a0,a1,b0,b1,c0,c1,.int .i64 N,.int .i64 M,.string S,vk,vl]] w (AnsP w z 0 0 0 0 ⟨#[]⟩ E) := by
 have k14 : ((19 : Int) == 14) = false := by decide
 have k15 : ((19 : Int) == 15) = false := by decide
 have k16 : ((19 : Int) == 16) = false := by decide
 have k17 : ((19 : Int) == 17) = false := by decide
 have k18 : ((19 : Int) == 18) = false := by decide
 have k19 : ((19 : Int) == 19) = true := by decide
 obtain ⟨W0,hW⟩ : ∃ W0,((w.alloc (opo5 19 a0 a1 b0 b1 c0 c1 N M S vk vl)).alloc anz5).alloc anz5 = W0 := ⟨_,rfl⟩
 obtain ⟨h1,h2,h3,h4,SZ⟩ := tri5 w (opo5 19 a0 a1 b0 b1 c0 c1 N M S vk vl) anz5 anz5;rw [hW] at h1 h2 h3 h4 SZ;have B1 := hid h1;have B2 := hid h2;have B3 := hid h3;have G := hid h4;have EW := hid hW;clear h2 h3 h4;obtain ⟨o0,o1,o2,o3,o4,o5,o6,o7,o8,o9,o10,o11⟩ := tw5 h1;rw [← hW] at o0 o1 o2 o3 o4 o5 o6 o7 o8 o9 o10 o11;clear h1 hW;have HC := hid (H W0 G.out);clear H;go_enter Tryz.func52,Tryz.ntmps52;go_wp2_with fail;rw [EW.out];clear EW o0 o1 o2 o3 o4 o5 o6 o7 o8 o9 o10 o11;refine HC.out.mono ?_;rintro e w1 ⟨r,rfl,mz,b⟩;obtain ⟨nz,xz,az,cz,rfl⟩ := mz.parts;have MZ := hid mz;replace B1 := hid (box5 B1.out b);replace B2 := hid (box5 B2.out b);replace B3 := hid (box5 B3.out b);replace G := hid (below_step G.out b);clear b HC mz;obtain ⟨⟨r0,r1,r2,r3,r4,r5,r6,r7,r8⟩,rf⟩ := zKA B2.out;obtain ⟨⟨z0,z1,z2,z3,z4,z5,z6,z7,z8⟩,zf⟩ := zKA B3.out;have rf0 := rf 0;have zf0 := zf 0;have rf1 := rf 1;have zf1 := zf 1;have rf2 := rf 2;have zf2 := zf 2;have rf3 := rf 3;have zf3 := zf 3;have rf4 := rf 4;have zf4 := zf 4;have rf5 := rf 5;have zf5 := zf 5;have rf6 := rf 6;have zf6 := zf 6;have rf7 := rf 7;have zf7 := zf 7;have rf8 := rf 8;have zf8 := zf 8;clear rf zf;go_wp2;obtain ⟨WX,hWX⟩ : ∃ WX,(((w1.setCell ⟨w.heap.size + 1 + 1,0,none⟩ (.bool nz)).setCell ⟨w.heap.size + 1 + 1,1,none⟩ (.slice az xz.length cz)).setCell ⟨w.heap.size + 1 + 1,8,none⟩ (.int .i64 E)) = WX := ⟨_,rfl⟩
 have oX : Only (w.heap.size + 1 + 1) w1 WX := by rw [← hWX];exact ((((Only.refl _ _).set _ _).set _ _).set _ _)
 have mX : Mid5 w.heap.size (w.heap.size + 1 + 1 + 1) w1 WX := by rw [← hWX];exact ((((Mid5.refl _ _ _).set (by omega) (by omega) _ _).set (by omega) (by omega) _ _).set (by omega) (by omega) _ _)
 rw [hWX];clear hWX;have nb : w.heap.size + 1 ≠ w.heap.size + 1 + 1 := by omega
 exact bodyPost_ret (zjA ((oX.cell nb).trans r0) ((oX.cell nb).trans r1) ((oX.cell nb).trans r2) ((oX.cell nb).trans r3) ((oX.cell nb).trans r4) ((oX.cell nb).trans r5) ((oX.cell nb).trans r6) ((oX.cell nb).trans r7) ((oX.cell nb).trans r8) _ (by rfl)) rfl (zGA (B := W0.heap.size) (by omega) MZ.out (zLA _ _ 0) G.out (mX.nine (by omega) (by omega) _ _ _ _ _ _ _ _ _))
theorem askedMore_20 {w : World} {a0 a1 b0 b1 c0 c1 vk vl : Value} {N M : Int} {S : ByteArray} {T : ByteArray} (H : ∀ w',Below w.heap.size w w' → Calls Tryz.prog 19 #[.agg #[a0,a1]] w' (fun e w'' => e = .returned (.string T) ∧ Below w'.heap.size w' w'')) :
  Calls Tryz.prog 52 #[.agg #[.int .i64 20,a0,a1,b0,b1,c0,c1,.int .i64 N,.int .i64 M,.string S,vk,vl]] w (AnsP w 0 0 0 0 0 T 0) := by
 have k14 : ((20 : Int) == 14) = false := by decide
 have k15 : ((20 : Int) == 15) = false := by decide
 have k16 : ((20 : Int) == 16) = false := by decide
 have k17 : ((20 : Int) == 17) = false := by decide
 have k18 : ((20 : Int) == 18) = false := by decide
 have k19 : ((20 : Int) == 19) = false := by decide
 have k20 : ((20 : Int) == 20) = true := by decide
 obtain ⟨W0,hW⟩ : ∃ W0,((w.alloc (opo5 20 a0 a1 b0 b1 c0 c1 N M S vk vl)).alloc anz5).alloc anz5 = W0 := ⟨_,rfl⟩
 obtain ⟨h1,h2,h3,h4,SZ⟩ := tri5 w (opo5 20 a0 a1 b0 b1 c0 c1 N M S vk vl) anz5 anz5;rw [hW] at h1 h2 h3 h4 SZ;have B1 := hid h1;have B2 := hid h2;have B3 := hid h3;have G := hid h4;have EW := hid hW;clear h2 h3 h4;obtain ⟨o0,o1,o2,o3,o4,o5,o6,o7,o8,o9,o10,o11⟩ := tw5 h1;rw [← hW] at o0 o1 o2 o3 o4 o5 o6 o7 o8 o9 o10 o11;clear h1 hW;have HC := hid (H W0 G.out);clear H;go_enter Tryz.func52,Tryz.ntmps52;go_wp2_with fail;rw [EW.out];clear EW o0 o1 o2 o3 o4 o5 o6 o7 o8 o9 o10 o11;refine HC.out.mono ?_;rintro e w1 ⟨rfl,b⟩;replace B1 := hid (box5 B1.out b);replace B2 := hid (box5 B2.out b);replace B3 := hid (box5 B3.out b);replace G := hid (below_step G.out b);clear b HC;obtain ⟨⟨r0,r1,r2,r3,r4,r5,r6,r7,r8⟩,rf⟩ := zKA B2.out;obtain ⟨⟨z0,z1,z2,z3,z4,z5,z6,z7,z8⟩,zf⟩ := zKA B3.out;have rf0 := rf 0;have zf0 := zf 0;have rf1 := rf 1;have zf1 := zf 1;have rf2 := rf 2;have zf2 := zf 2;have rf3 := rf 3;have zf3 := zf 3;have rf4 := rf 4;have zf4 := zf 4;have rf5 := rf 5;have zf5 := zf 5;have rf6 := rf 6;have zf6 := zf 6;have rf7 := rf 7;have zf7 := zf 7;have rf8 := rf 8;have zf8 := zf 8;clear rf zf;go_wp2;obtain ⟨WX,hWX⟩ : ∃ WX,(w1.setCell ⟨w.heap.size + 1 + 1,7,none⟩ (.string T)) = WX := ⟨_,rfl⟩
 have oX : Only (w.heap.size + 1 + 1) w1 WX := by rw [← hWX];exact ((Only.refl _ _).set _ _)
 have mX : Mid5 w.heap.size (w.heap.size + 1 + 1 + 1) w1 WX := by rw [← hWX];exact ((Mid5.refl _ _ _).set (by omega) (by omega) _ _)
 rw [hWX];clear hWX;have nb : w.heap.size + 1 ≠ w.heap.size + 1 + 1 := by omega
 exact bodyPost_ret (zjA ((oX.cell nb).trans r0) ((oX.cell nb).trans r1) ((oX.cell nb).trans r2) ((oX.cell nb).trans r3) ((oX.cell nb).trans r4) ((oX.cell nb).trans r5) ((oX.cell nb).trans r6) ((oX.cell nb).trans r7) ((oX.cell nb).trans r8) _ (by rfl)) rfl (zGA (B := W0.heap.size) (by omega) (zLA _ _ 0) (zLA _ _ 0) G.out (mX.nine (by omega) (by omega) _ _ _ _ _ _ _ _ _))
theorem zyD {w : World} {a0 a1 b0 b1 c0 c1 vk vl : Value} {N M : Int} {S : ByteArray} {E z : Int} {k : Nat} (H : ∀ w',Below w.heap.size w w' → Calls Tryz.prog 88 #[.string S] w' (zMA E w' z k)) :
  Calls Tryz.prog 52 #[.agg #[.int .i64 21,a0,a1,b0,b1,c0,c1,.int .i64 N,.int .i64 M,.string S,vk,vl]] w (AnsP w z 0 0 0 0 ⟨#[]⟩ E) := by
 have k14 : ((21 : Int) == 14) = false := by decide
 have k15 : ((21 : Int) == 15) = false := by decide
 have k16 : ((21 : Int) == 16) = false := by decide
 have k17 : ((21 : Int) == 17) = false := by decide
 have k18 : ((21 : Int) == 18) = false := by decide
 have k19 : ((21 : Int) == 19) = false := by decide
 have k20 : ((21 : Int) == 20) = false := by decide
 have k21 : ((21 : Int) == 21) = true := by decide
 obtain ⟨W0,hW⟩ : ∃ W0,((w.alloc (opo5 21 a0 a1 b0 b1 c0 c1 N M S vk vl)).alloc anz5).alloc anz5 = W0 := ⟨_,rfl⟩
 obtain ⟨h1,h2,h3,h4,SZ⟩ := tri5 w (opo5 21 a0 a1 b0 b1 c0 c1 N M S vk vl) anz5 anz5;rw [hW] at h1 h2 h3 h4 SZ;have B1 := hid h1;have B2 := hid h2;have B3 := hid h3;have G := hid h4;have EW := hid hW;clear h2 h3 h4;obtain ⟨o0,o1,o2,o3,o4,o5,o6,o7,o8,o9,o10,o11⟩ := tw5 h1;rw [← hW] at o0 o1 o2 o3 o4 o5 o6 o7 o8 o9 o10 o11;clear h1 hW;have HC := hid (H W0 G.out);clear H;go_enter Tryz.func52,Tryz.ntmps52;go_wp2_with fail;rw [EW.out];clear EW o0 o1 o2 o3 o4 o5 o6 o7 o8 o9 o10 o11;refine HC.out.mono ?_;rintro e w1 ⟨r,rfl,mz,b⟩;obtain ⟨nz,xz,az,cz,rfl⟩ := mz.parts;have MZ := hid mz;replace B1 := hid (box5 B1.out b);replace B2 := hid (box5 B2.out b);replace B3 := hid (box5 B3.out b);replace G := hid (below_step G.out b);clear b HC mz;obtain ⟨⟨r0,r1,r2,r3,r4,r5,r6,r7,r8⟩,rf⟩ := zKA B2.out;obtain ⟨⟨z0,z1,z2,z3,z4,z5,z6,z7,z8⟩,zf⟩ := zKA B3.out;have rf0 := rf 0;have zf0 := zf 0;have rf1 := rf 1;have zf1 := zf 1;have rf2 := rf 2;have zf2 := zf 2;have rf3 := rf 3;have zf3 := zf 3;have rf4 := rf 4;have zf4 := zf 4;have rf5 := rf 5;have zf5 := zf 5;have rf6 := rf 6;have zf6 := zf 6;have rf7 := rf 7;have zf7 := zf 7;have rf8 := rf 8;have zf8 := zf 8;clear rf zf;go_wp2;obtain ⟨WX,hWX⟩ : ∃ WX,(((w1.setCell ⟨w.heap.size + 1 + 1,0,none⟩ (.bool nz)).setCell ⟨w.heap.size + 1 + 1,1,none⟩ (.slice az xz.length cz)).setCell ⟨w.heap.size + 1 + 1,8,none⟩ (.int .i64 E)) = WX := ⟨_,rfl⟩
 have oX : Only (w.heap.size + 1 + 1) w1 WX := by rw [← hWX];exact ((((Only.refl _ _).set _ _).set _ _).set _ _)
 have mX : Mid5 w.heap.size (w.heap.size + 1 + 1 + 1) w1 WX := by rw [← hWX];exact ((((Mid5.refl _ _ _).set (by omega) (by omega) _ _).set (by omega) (by omega) _ _).set (by omega) (by omega) _ _)
 rw [hWX];clear hWX;have nb : w.heap.size + 1 ≠ w.heap.size + 1 + 1 := by omega
 exact bodyPost_ret (zjA ((oX.cell nb).trans r0) ((oX.cell nb).trans r1) ((oX.cell nb).trans r2) ((oX.cell nb).trans r3) ((oX.cell nb).trans r4) ((oX.cell nb).trans r5) ((oX.cell nb).trans r6) ((oX.cell nb).trans r7) ((oX.cell nb).trans r8) _ (by rfl)) rfl (zGA (B := W0.heap.size) (by omega) MZ.out (zLA _ _ 0) G.out (mX.nine (by omega) (by omega) _ _ _ _ _ _ _ _ _))
theorem askedMore_none {w : World} {a0 a1 b0 b1 c0 c1 vk vl : Value} {N M : Int} {S : ByteArray} {kind : Int} (hk : kind < 14 ∨ 21 < kind) :
  Calls Tryz.prog 52 #[.agg #[.int .i64 kind,a0,a1,b0,b1,c0,c1,.int .i64 N,.int .i64 M,.string S,vk,vl]] w (AnsP w 0 0 0 0 0 ⟨#[]⟩ 0) := by
 have k14 : (kind == 14) = false := by rw [beq_eq_false_iff_ne];omega
 have k15 : (kind == 15) = false := by rw [beq_eq_false_iff_ne];omega
 have k16 : (kind == 16) = false := by rw [beq_eq_false_iff_ne];omega
 have k17 : (kind == 17) = false := by rw [beq_eq_false_iff_ne];omega
 have k18 : (kind == 18) = false := by rw [beq_eq_false_iff_ne];omega
 have k19 : (kind == 19) = false := by rw [beq_eq_false_iff_ne];omega
 have k20 : (kind == 20) = false := by rw [beq_eq_false_iff_ne];omega
 have k21 : (kind == 21) = false := by rw [beq_eq_false_iff_ne];omega
 obtain ⟨W0,hW⟩ : ∃ W0,((w.alloc (opo5 kind a0 a1 b0 b1 c0 c1 N M S vk vl)).alloc anz5).alloc anz5 = W0 := ⟨_,rfl⟩
 obtain ⟨h1,h2,h3,h4,SZ⟩ := tri5 w (opo5 kind a0 a1 b0 b1 c0 c1 N M S vk vl) anz5 anz5;rw [hW] at h1 h2 h3 h4 SZ;have B1 := hid h1;have B2 := hid h2;have B3 := hid h3;have G := hid h4;have EW := hid hW;clear h2 h3 h4;obtain ⟨o0,o1,o2,o3,o4,o5,o6,o7,o8,o9,o10,o11⟩ := tw5 h1;rw [← hW] at o0 o1 o2 o3 o4 o5 o6 o7 o8 o9 o10 o11;obtain ⟨⟨r0,r1,r2,r3,r4,r5,r6,r7,r8⟩,rf⟩ := zKA B2.out;obtain ⟨⟨z0,z1,z2,z3,z4,z5,z6,z7,z8⟩,zf⟩ := zKA B3.out;have rf0 := rf 0;have rf1 := rf 1;have rf2 := rf 2;have rf3 := rf 3;have rf4 := rf 4;have rf5 := rf 5;have rf6 := rf 6;have rf7 := rf 7;have rf8 := rf 8;rw [← hW] at r0 z0 rf0 r1 z1 rf1 r2 z2 rf2 r3 z3 rf3 r4 z4 rf4 r5 z5 rf5 r6 z6 rf6 r7 z7 rf7 r8 z8 rf8;clear h1 hW rf zf;go_enter Tryz.func52,Tryz.ntmps52;go_wp2_with fail;rw [EW.out] at r0 r1 r2 r3 r4 r5 r6 r7 r8 ⊢;exact bodyPost_ret (askedMore_back0 r0 r1 r2 r3 r4 r5 r6 r7 r8 _ (by rfl)) rfl (zGA (B := W0.heap.size) (by omega) (zLA _ _ 0) (zLA _ _ 0) G.out (Mid5.refl _ _ _))
end Go.Proofs.YtkdobgbicnemcaaGreatDoor
