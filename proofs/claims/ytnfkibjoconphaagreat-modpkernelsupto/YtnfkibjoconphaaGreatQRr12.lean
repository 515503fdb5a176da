import Derived.Test.YtnfkibjoconphaaGreatQLw12ToCw12
import Derived.Test.YtnfkibjoconphaaGreatQLe12ToDWords
import Derived.Test.YtnfkibjoconphaaGreatQZr12
set_option maxRecDepth 100000
set_option maxHeartbeats 6400000
set_option linter.unusedVariables false
set_option linter.unusedSimpArgs false
namespace Go.Proofs.YtnfkibjoconphaaGreat
open Go.RowKit
def RfH (w : World) (r c : Int) (a : Option Addr) (l cap : Nat) (gk : Nat) (s : Value) (wx : World) : Prop :=
 ∃ k : Int,s = .int .i64 k ∧ 3 ≤ k ∧ k ≤ 10 ∧ gk = (10 - k).toNat ∧ Cel wx w.heap.size 24 (mrC r c a l cap) ∧ Below w.heap.size w wx
theorem refuses_un {w : World} {r c : Int} {a : Option Addr} {l cap p : Nat} (hl : l ≤ 1048576) (hs : ¬ Snd r c l) (hc : znB w r c a l cap false) :
  Calls Tryz.prog 8 #[mrV r c a l cap,.int .u64 (p : Int)] w fun e w' => e = .returned (.bool true) ∧ Below w.heap.size w w' := by
 have HSB : Hid (∀ w',Calls Tryz.prog 6 #[mrV r c a l cap] w' fun e w'' => e = .returned (.bool false) ∧ Below w'.heap.size w' w'') := fun w' => zyD (s := false) hl ⟨(fun h => by cases h),fun h => absurd h hs⟩
 obtain ⟨W0,hW⟩ : ∃ W0,w.alloc (mrO r c a l cap) = W0 := ⟨_,rfl⟩
 obtain ⟨b0,sz0⟩ := zJA w (mrO r c a l cap);rw [hW] at b0 sz0;have P1 : Hid (Cel W0 w.heap.size 24 (mrC r c a l cap)) := by unfold Hid;rw [← hW];exact Cel.new w _ _
 have HS0 := hid (HSB.out W0);have x0 := P1.out.at (i := 0) rfl;have x1 := P1.out.at (i := 1) rfl;have x2 := P1.out.at (i := 2) rfl;rw [← hW] at x0 x1 x2;have CK := hid hc;have G0 := hid b0;have EW := hid hW;clear b0 sz0 hW hs hc;go_enter Tryz.func8,Tryz.ntmps8;go_wp2_with fail;rw [EW.out];refine HS0.out.mono ?_;rintro e w0 ⟨rfl,b⟩;have H0 : Hid (RfH w r c a l cap 7 (.int .i64 3) w0) := ⟨3,rfl,by decide,by decide,rfl,P1.out.step b,below_step G0.out b⟩
 clear HS0 b x0 x1 x2 EW G0 P1;go_wp2_with fail
 go_loopg [5] 7 (fun gk s5 wx => RfH w r c a l cap gk s5 wx)
 case atStart => exact H0.out
 case round =>
  clear H0;obtain ⟨k,rfl,hk3,hk10,hg,hm,hG⟩ := hrel;have PM := hid hm;have G := hid hG;have HG := hid hg;clear hm hG hg;have hcs : k = 3 ∨ k = 4 ∨ k = 5 ∨ k = 6 ∨ k = 7 ∨ k = 8 ∨ k = 9 ∨ k = 10 := by omega
  rcases hcs with rfl | rfl | rfl | rfl | rfl | rfl | rfl | rfl
  ·skip
   have hE : zNA false true p = 1 := rfl;have HP := hid (zWD (CK.out.now G.out) hE rfl);have x0 := PM.out.at (i := 0) rfl;have x1 := PM.out.at (i := 1) rfl;have x2 := PM.out.at (i := 2) rfl;have hle : (3 : Int) ≤ 9 := by decide
   clear hE;go_wp2_with fail;refine HP.out.mono ?_;rintro e w1 ⟨rfl,b1⟩;obtain ⟨X1,hX1⟩ : ∃ X1,w1.alloc (ansO 1) = X1 := ⟨_,rfl⟩
   obtain ⟨bX,szX⟩ := zJA w1 (ansO 1);rw [hX1] at bX szX;have PX : Hid (Cel X1 w1.heap.size 55 (ansC 1)) := by unfold Hid;rw [← hX1];exact Cel.new w1 _ _
   have bW := below_step b1 bX;have PM1 := hid (PM.out.step bW);have G1 := hid (below_step G.out bW);have y0 := PM1.out.at (i := 0) rfl;have y1 := PM1.out.at (i := 1) rfl;have y2 := PM1.out.at (i := 2) rfl;rw [← hX1] at y0 y1 y2;have e4 : ((3 : Int) == 4) = false := rfl;have e7 : ((3 : Int) == 7) = false := rfl;have e9 : ((3 : Int) == 9) = false := rfl;have EX := hid hX1;have HS := hid (HSB.out X1);clear HP b1 bX szX hX1 bW x0 x1 x2 PM G;go_wp2_with fail;rw [EX.out];refine HS.out.mono ?_;rintro e w2 ⟨rfl,b2⟩;have PX2 := hid (PX.out.step b2);have PM2 := hid (PM1.out.step b2);have G2 := hid (below_step G1.out b2);have HM := hid (zsA (w := w2) (E := 1));have z0 := PX2.out.at (i := 0) rfl;have z1 := PX2.out.at (i := 1) rfl;have z2 := PX2.out.at (i := 2) rfl;have z3 := PX2.out.at (i := 3) rfl;have z4 := PX2.out.at (i := 4) rfl;have z5 := PX2.out.at (i := 5) rfl;have z6 := PX2.out.at (i := 6) rfl;have z7 := PX2.out.at (i := 7) rfl;clear HS EX y0 y1 y2 PX PM1 G1 e4 e7 e9 b2;go_wp2_with fail;refine HM.out.mono ?_;rintro e w3 ⟨rfl,b3⟩;have HN1 : Hid (RfH w r c a l cap (10 - (3 + 1) : Int).toNat (.int .i64 4) w3) := ⟨4,rfl,by decide,by decide,rfl,PM2.out.step b3,below_step G2.out b3⟩
   have hw : IntKind.i64.wrap ((3 : Int) + 1) = 4 := by decide
   clear HM PX2 PM2 G2 b3 z0 z1 z2 z3 z4 z5 z6 z7;go_wp2_with fail;go_roundg ((10 - (3 + 1) : Int).toNat)
   case rel => exact HN1.out
   case measure => rw [HG.out];decide
  ·by_cases hrc : r = c
   ·skip
    have en : (r != c) = false := by simp [hrc]
    have ef : (r == c) = true := by simp [hrc]
    have hE : zNA false (r == c) p = 1 := rfl;have HP := hid (zuC (CK.out.now G.out) hE rfl);have x0 := PM.out.at (i := 0) rfl;have x1 := PM.out.at (i := 1) rfl;have x2 := PM.out.at (i := 2) rfl;have hle : (4 : Int) ≤ 9 := by decide
    clear hE ef hrc;go_wp2_with fail;refine HP.out.mono ?_;rintro e w1 ⟨rfl,b1⟩;obtain ⟨X1,hX1⟩ : ∃ X1,w1.alloc (ansO 1) = X1 := ⟨_,rfl⟩
    obtain ⟨bX,szX⟩ := zJA w1 (ansO 1);rw [hX1] at bX szX;have PX : Hid (Cel X1 w1.heap.size 55 (ansC 1)) := by unfold Hid;rw [← hX1];exact Cel.new w1 _ _
    have bW := below_step b1 bX;have PM1 := hid (PM.out.step bW);have G1 := hid (below_step G.out bW);have y0 := PM1.out.at (i := 0) rfl;have y1 := PM1.out.at (i := 1) rfl;have y2 := PM1.out.at (i := 2) rfl;rw [← hX1] at y0 y1 y2;have e4 : ((4 : Int) == 4) = true := rfl;have e7 : ((4 : Int) == 7) = false := rfl;have e9 : ((4 : Int) == 9) = false := rfl;have EX := hid hX1;have HS := hid (HSB.out X1);clear HP b1 bX szX hX1 bW x0 x1 x2 PM G;go_wp2_with fail;rw [EX.out];refine HS.out.mono ?_;rintro e w2 ⟨rfl,b2⟩;have PX2 := hid (PX.out.step b2);have PM2 := hid (PM1.out.step b2);have G2 := hid (below_step G1.out b2);have HM := hid (zsA (w := w2) (E := 1));have z0 := PX2.out.at (i := 0) rfl;have z1 := PX2.out.at (i := 1) rfl;have z2 := PX2.out.at (i := 2) rfl;have z3 := PX2.out.at (i := 3) rfl;have z4 := PX2.out.at (i := 4) rfl;have z5 := PX2.out.at (i := 5) rfl;have z6 := PX2.out.at (i := 6) rfl;have z7 := PX2.out.at (i := 7) rfl;clear HS EX y0 y1 y2 PX PM1 G1 e4 e7 e9 b2 en;go_wp2_with fail;refine HM.out.mono ?_;rintro e w3 ⟨rfl,b3⟩;have HN1 : Hid (RfH w r c a l cap (10 - (4 + 1) : Int).toNat (.int .i64 5) w3) := ⟨5,rfl,by decide,by decide,rfl,PM2.out.step b3,below_step G2.out b3⟩
    have hw : IntKind.i64.wrap ((4 : Int) + 1) = 5 := by decide
    clear HM PX2 PM2 G2 b3 z0 z1 z2 z3 z4 z5 z6 z7;go_wp2_with fail;go_roundg ((10 - (4 + 1) : Int).toNat)
    case rel => exact HN1.out
    case measure => rw [HG.out];decide
   ·skip
    have en : (r != c) = true := by simp [hrc]
    have ef : (r == c) = false := by simp [hrc]
    have hE : zNA false (r == c) p = 1 := rfl;have HP := hid (zuC (CK.out.now G.out) hE rfl);have x0 := PM.out.at (i := 0) rfl;have x1 := PM.out.at (i := 1) rfl;have x2 := PM.out.at (i := 2) rfl;have hle : (4 : Int) ≤ 9 := by decide
    clear hE ef hrc;go_wp2_with fail;refine HP.out.mono ?_;rintro e w1 ⟨rfl,b1⟩;obtain ⟨X1,hX1⟩ : ∃ X1,w1.alloc (ansO 1) = X1 := ⟨_,rfl⟩
    obtain ⟨bX,szX⟩ := zJA w1 (ansO 1);rw [hX1] at bX szX;have PX : Hid (Cel X1 w1.heap.size 55 (ansC 1)) := by unfold Hid;rw [← hX1];exact Cel.new w1 _ _
    have bW := below_step b1 bX;have PM1 := hid (PM.out.step bW);have G1 := hid (below_step G.out bW);have y0 := PM1.out.at (i := 0) rfl;have y1 := PM1.out.at (i := 1) rfl;have y2 := PM1.out.at (i := 2) rfl;rw [← hX1] at y0 y1 y2;have e4 : ((4 : Int) == 4) = true := rfl;have e7 : ((4 : Int) == 7) = false := rfl;have e9 : ((4 : Int) == 9) = false := rfl;have EX := hid hX1;have HS := hid (HSB.out X1);clear HP b1 bX szX hX1 bW x0 x1 x2 PM G;go_wp2_with fail;rw [EX.out];refine HS.out.mono ?_;rintro e w2 ⟨rfl,b2⟩;have PX2 := hid (PX.out.step b2);have PM2 := hid (PM1.out.step b2);have G2 := hid (below_step G1.out b2);have HM := hid (zsA (w := w2) (E := 1));have z0 := PX2.out.at (i := 0) rfl;have z1 := PX2.out.at (i := 1) rfl;have z2 := PX2.out.at (i := 2) rfl;have z3 := PX2.out.at (i := 3) rfl;have z4 := PX2.out.at (i := 4) rfl;have z5 := PX2.out.at (i := 5) rfl;have z6 := PX2.out.at (i := 6) rfl;have z7 := PX2.out.at (i := 7) rfl;clear HS EX y0 y1 y2 PX PM1 G1 e4 e7 e9 b2 en;go_wp2_with fail;refine HM.out.mono ?_;rintro e w3 ⟨rfl,b3⟩;have HN1 : Hid (RfH w r c a l cap (10 - (4 + 1) : Int).toNat (.int .i64 5) w3) := ⟨5,rfl,by decide,by decide,rfl,PM2.out.step b3,below_step G2.out b3⟩
    have hw : IntKind.i64.wrap ((4 : Int) + 1) = 5 := by decide
    clear HM PX2 PM2 G2 b3 z0 z1 z2 z3 z4 z5 z6 z7;go_wp2_with fail;go_roundg ((10 - (4 + 1) : Int).toNat)
    case rel => exact HN1.out
    case measure => rw [HG.out];decide
  ·skip
   have hE : zNA false true p = 1 := rfl;have HP := hid (zhE (CK.out.now G.out) hE rfl);have x0 := PM.out.at (i := 0) rfl;have x1 := PM.out.at (i := 1) rfl;have x2 := PM.out.at (i := 2) rfl;have hle : (5 : Int) ≤ 9 := by decide
   clear hE;go_wp2_with fail;refine HP.out.mono ?_;rintro e w1 ⟨rfl,b1⟩;obtain ⟨X1,hX1⟩ : ∃ X1,w1.alloc (ansO 1) = X1 := ⟨_,rfl⟩
   obtain ⟨bX,szX⟩ := zJA w1 (ansO 1);rw [hX1] at bX szX;have PX : Hid (Cel X1 w1.heap.size 55 (ansC 1)) := by unfold Hid;rw [← hX1];exact Cel.new w1 _ _
   have bW := below_step b1 bX;have PM1 := hid (PM.out.step bW);have G1 := hid (below_step G.out bW);have y0 := PM1.out.at (i := 0) rfl;have y1 := PM1.out.at (i := 1) rfl;have y2 := PM1.out.at (i := 2) rfl;rw [← hX1] at y0 y1 y2;have e4 : ((5 : Int) == 4) = false := rfl;have e7 : ((5 : Int) == 7) = false := rfl;have e9 : ((5 : Int) == 9) = false := rfl;have EX := hid hX1;have HS := hid (HSB.out X1);clear HP b1 bX szX hX1 bW x0 x1 x2 PM G;go_wp2_with fail;rw [EX.out];refine HS.out.mono ?_;rintro e w2 ⟨rfl,b2⟩;have PX2 := hid (PX.out.step b2);have PM2 := hid (PM1.out.step b2);have G2 := hid (below_step G1.out b2);have HM := hid (zsA (w := w2) (E := 1));have z0 := PX2.out.at (i := 0) rfl;have z1 := PX2.out.at (i := 1) rfl;have z2 := PX2.out.at (i := 2) rfl;have z3 := PX2.out.at (i := 3) rfl;have z4 := PX2.out.at (i := 4) rfl;have z5 := PX2.out.at (i := 5) rfl;have z6 := PX2.out.at (i := 6) rfl;have z7 := PX2.out.at (i := 7) rfl;clear HS EX y0 y1 y2 PX PM1 G1 e4 e7 e9 b2;go_wp2_with fail;refine HM.out.mono ?_;rintro e w3 ⟨rfl,b3⟩;have HN1 : Hid (RfH w r c a l cap (10 - (5 + 1) : Int).toNat (.int .i64 6) w3) := ⟨6,rfl,by decide,by decide,rfl,PM2.out.step b3,below_step G2.out b3⟩
   have hw : IntKind.i64.wrap ((5 : Int) + 1) = 6 := by decide
   clear HM PX2 PM2 G2 b3 z0 z1 z2 z3 z4 z5 z6 z7;go_wp2_with fail;go_roundg ((10 - (5 + 1) : Int).toNat)
   case rel => exact HN1.out
   case measure => rw [HG.out];decide
  ·skip
   have hE : zNA false true p = 1 := rfl;have HP := hid (ztC (CK.out.now G.out) hE rfl);have x0 := PM.out.at (i := 0) rfl;have x1 := PM.out.at (i := 1) rfl;have x2 := PM.out.at (i := 2) rfl;have hle : (6 : Int) ≤ 9 := by decide
   clear hE;go_wp2_with fail;refine HP.out.mono ?_;rintro e w1 ⟨rfl,b1⟩;obtain ⟨X1,hX1⟩ : ∃ X1,w1.alloc (ansO 1) = X1 := ⟨_,rfl⟩
   obtain ⟨bX,szX⟩ := zJA w1 (ansO 1);rw [hX1] at bX szX;have PX : Hid (Cel X1 w1.heap.size 55 (ansC 1)) := by unfold Hid;rw [← hX1];exact Cel.new w1 _ _
   have bW := below_step b1 bX;have PM1 := hid (PM.out.step bW);have G1 := hid (below_step G.out bW);have y0 := PM1.out.at (i := 0) rfl;have y1 := PM1.out.at (i := 1) rfl;have y2 := PM1.out.at (i := 2) rfl;rw [← hX1] at y0 y1 y2;have e4 : ((6 : Int) == 4) = false := rfl;have e7 : ((6 : Int) == 7) = false := rfl;have e9 : ((6 : Int) == 9) = false := rfl;have EX := hid hX1;have HS := hid (HSB.out X1);clear HP b1 bX szX hX1 bW x0 x1 x2 PM G;go_wp2_with fail;rw [EX.out];refine HS.out.mono ?_;rintro e w2 ⟨rfl,b2⟩;have PX2 := hid (PX.out.step b2);have PM2 := hid (PM1.out.step b2);have G2 := hid (below_step G1.out b2);have HM := hid (zsA (w := w2) (E := 1));have z0 := PX2.out.at (i := 0) rfl;have z1 := PX2.out.at (i := 1) rfl;have z2 := PX2.out.at (i := 2) rfl;have z3 := PX2.out.at (i := 3) rfl;have z4 := PX2.out.at (i := 4) rfl;have z5 := PX2.out.at (i := 5) rfl;have z6 := PX2.out.at (i := 6) rfl;have z7 := PX2.out.at (i := 7) rfl;clear HS EX y0 y1 y2 PX PM1 G1 e4 e7 e9 b2;go_wp2_with fail;refine HM.out.mono ?_;rintro e w3 ⟨rfl,b3⟩;have HN1 : Hid (RfH w r c a l cap (10 - (6 + 1) : Int).toNat (.int .i64 7) w3) := ⟨7,rfl,by decide,by decide,rfl,PM2.out.step b3,below_step G2.out b3⟩
   have hw : IntKind.i64.wrap ((6 : Int) + 1) = 7 := by decide
   clear HM PX2 PM2 G2 b3 z0 z1 z2 z3 z4 z5 z6 z7;go_wp2_with fail;go_roundg ((10 - (6 + 1) : Int).toNat)
   case rel => exact HN1.out
   case measure => rw [HG.out];decide
  ·by_cases hrc : r = c
   ·skip
    have en : (r != c) = false := by simp [hrc]
    have ef : (r == c) = true := by simp [hrc]
    have hE : zNA false (r == c) p = 1 := rfl;have HP := hid (zOB (CK.out.now G.out) hE rfl);have x0 := PM.out.at (i := 0) rfl;have x1 := PM.out.at (i := 1) rfl;have x2 := PM.out.at (i := 2) rfl;have hle : (7 : Int) ≤ 9 := by decide
    clear hE ef hrc;go_wp2_with fail;refine HP.out.mono ?_;rintro e w1 ⟨rfl,b1⟩;obtain ⟨X1,hX1⟩ : ∃ X1,w1.alloc (ansO 1) = X1 := ⟨_,rfl⟩
    obtain ⟨bX,szX⟩ := zJA w1 (ansO 1);rw [hX1] at bX szX;have PX : Hid (Cel X1 w1.heap.size 55 (ansC 1)) := by unfold Hid;rw [← hX1];exact Cel.new w1 _ _
    have bW := below_step b1 bX;have PM1 := hid (PM.out.step bW);have G1 := hid (below_step G.out bW);have y0 := PM1.out.at (i := 0) rfl;have y1 := PM1.out.at (i := 1) rfl;have y2 := PM1.out.at (i := 2) rfl;rw [← hX1] at y0 y1 y2;have e4 : ((7 : Int) == 4) = false := rfl;have e7 : ((7 : Int) == 7) = true := rfl;have e9 : ((7 : Int) == 9) = false := rfl;have EX := hid hX1;have HS := hid (HSB.out X1);clear HP b1 bX szX hX1 bW x0 x1 x2 PM G;go_wp2_with fail;rw [EX.out];refine HS.out.mono ?_;rintro e w2 ⟨rfl,b2⟩;have PX2 := hid (PX.out.step b2);have PM2 := hid (PM1.out.step b2);have G2 := hid (below_step G1.out b2);have HM := hid (zsA (w := w2) (E := 1));have z0 := PX2.out.at (i := 0) rfl;have z1 := PX2.out.at (i := 1) rfl;have z2 := PX2.out.at (i := 2) rfl;have z3 := PX2.out.at (i := 3) rfl;have z4 := PX2.out.at (i := 4) rfl;have z5 := PX2.out.at (i := 5) rfl;have z6 := PX2.out.at (i := 6) rfl;have z7 := PX2.out.at (i := 7) rfl;clear HS EX y0 y1 y2 PX PM1 G1 e4 e7 e9 b2 en;go_wp2_with fail;refine HM.out.mono ?_;rintro e w3 ⟨rfl,b3⟩;have HN1 : Hid (RfH w r c a l cap (10 - (7 + 1) : Int).toNat (.int .i64 8) w3) := ⟨8,rfl,by decide,by decide,rfl,PM2.out.step b3,below_step G2.out b3⟩
    have hw : IntKind.i64.wrap ((7 : Int) + 1) = 8 := by decide
    clear HM PX2 PM2 G2 b3 z0 z1 z2 z3 z4 z5 z6 z7;go_wp2_with fail;go_roundg ((10 - (7 + 1) : Int).toNat)
    case rel => exact HN1.out
    case measure => rw [HG.out];decide
   ·skip
    have en : (r != c) = true := by simp [hrc]
    have ef : (r == c) = false := by simp [hrc]
    have hE : zNA false (r == c) p = 1 := rfl;have HP := hid (zOB (CK.out.now G.out) hE rfl);have x0 := PM.out.at (i := 0) rfl;have x1 := PM.out.at (i := 1) rfl;have x2 := PM.out.at (i := 2) rfl;have hle : (7 : Int) ≤ 9 := by decide
    clear hE ef hrc;go_wp2_with fail;refine HP.out.mono ?_;rintro e w1 ⟨rfl,b1⟩;obtain ⟨X1,hX1⟩ : ∃ X1,w1.alloc (ansO 1) = X1 := ⟨_,rfl⟩
    obtain ⟨bX,szX⟩ := zJA w1 (ansO 1);rw [hX1] at bX szX;have PX : Hid (Cel X1 w1.heap.size 55 (ansC 1)) := by unfold Hid;rw [← hX1];exact Cel.new w1 _ _
    have bW := below_step b1 bX;have PM1 := hid (PM.out.step bW);have G1 := hid (below_step G.out bW);have y0 := PM1.out.at (i := 0) rfl;have y1 := PM1.out.at (i := 1) rfl;have y2 := PM1.out.at (i := 2) rfl;rw [← hX1] at y0 y1 y2;have e4 : ((7 : Int) == 4) = false := rfl;have e7 : ((7 : Int) == 7) = true := rfl;have e9 : ((7 : Int) == 9) = false := rfl;have EX := hid hX1;have HS := hid (HSB.out X1);clear HP b1 bX szX hX1 bW x0 x1 x2 PM G;go_wp2_with fail;rw [EX.out];refine HS.out.mono ?_;rintro e w2 ⟨rfl,b2⟩;have PX2 := hid (PX.out.step b2);have PM2 := hid (PM1.out.step b2);have G2 := hid (below_step G1.out b2);have HM := hid (zsA (w := w2) (E := 1));have z0 := PX2.out.at (i := 0) rfl;have z1 := PX2.out.at (i := 1) rfl;have z2 := PX2.out.at (i := 2) rfl;have z3 := PX2.out.at (i := 3) rfl;have z4 := PX2.out.at (i := 4) rfl;have z5 := PX2.out.at (i := 5) rfl;have z6 := PX2.out.at (i := 6) rfl;have z7 := PX2.out.at (i := 7) rfl;clear HS EX y0 y1 y2 PX PM1 G1 e4 e7 e9 b2 en;go_wp2_with fail;refine HM.out.mono ?_;rintro e w3 ⟨rfl,b3⟩;have HN1 : Hid (RfH w r c a l cap (10 - (7 + 1) : Int).toNat (.int .i64 8) w3) := ⟨8,rfl,by decide,by decide,rfl,PM2.out.step b3,below_step G2.out b3⟩
    have hw : IntKind.i64.wrap ((7 : Int) + 1) = 8 := by decide
    clear HM PX2 PM2 G2 b3 z0 z1 z2 z3 z4 z5 z6 z7;go_wp2_with fail;go_roundg ((10 - (7 + 1) : Int).toNat)
    case rel => exact HN1.out
    case measure => rw [HG.out];decide
  ·skip
   have hE : zNA false true p = 1 := rfl;have HP := hid (zXD (CK.out.now G.out) hE rfl);have x0 := PM.out.at (i := 0) rfl;have x1 := PM.out.at (i := 1) rfl;have x2 := PM.out.at (i := 2) rfl;have hle : (8 : Int) ≤ 9 := by decide
   clear hE;go_wp2_with fail;refine HP.out.mono ?_;rintro e w1 ⟨rfl,b1⟩;obtain ⟨X1,hX1⟩ : ∃ X1,w1.alloc (ansO 1) = X1 := ⟨_,rfl⟩
   obtain ⟨bX,szX⟩ := zJA w1 (ansO 1);rw [hX1] at bX szX;have PX : Hid (Cel X1 w1.heap.size 55 (ansC 1)) := by unfold Hid;rw [← hX1];exact Cel.new w1 _ _
   have bW := below_step b1 bX;have PM1 := hid (PM.out.step bW);have G1 := hid (below_step G.out bW);have y0 := PM1.out.at (i := 0) rfl;have y1 := PM1.out.at (i := 1) rfl;have y2 := PM1.out.at (i := 2) rfl;rw [← hX1] at y0 y1 y2;have e4 : ((8 : Int) == 4) = false := rfl;have e7 : ((8 : Int) == 7) = false := rfl;have e9 : ((8 : Int) == 9) = false := rfl;have EX := hid hX1;have HS := hid (HSB.out X1);clear HP b1 bX szX hX1 bW x0 x1 x2 PM G;go_wp2_with fail;rw [EX.out];refine HS.out.mono ?_;rintro e w2 ⟨rfl,b2⟩;have PX2 := hid (PX.out.step b2);have PM2 := hid (PM1.out.step b2);have G2 := hid (below_step G1.out b2);have HM := hid (zsA (w := w2) (E := 1));have z0 := PX2.out.at (i := 0) rfl;have z1 := PX2.out.at (i := 1) rfl;have z2 := PX2.out.at (i := 2) rfl;have z3 := PX2.out.at (i := 3) rfl;have z4 := PX2.out.at (i := 4) rfl;have z5 := PX2.out.at (i := 5) rfl;have z6 := PX2.out.at (i := 6) rfl;have z7 := PX2.out.at (i := 7) rfl;clear HS EX y0 y1 y2 PX PM1 G1 e4 e7 e9 b2;go_wp2_with fail;refine HM.out.mono ?_;rintro e w3 ⟨rfl,b3⟩;have HN1 : Hid (RfH w r c a l cap (10 - (8 + 1) : Int).toNat (.int .i64 9) w3) := ⟨9,rfl,by decide,by decide,rfl,PM2.out.step b3,below_step G2.out b3⟩
   have hw : IntKind.i64.wrap ((8 : Int) + 1) = 9 := by decide
   clear HM PX2 PM2 G2 b3 z0 z1 z2 z3 z4 z5 z6 z7;go_wp2_with fail;go_roundg ((10 - (8 + 1) : Int).toNat)
   case rel => exact HN1.out
   case measure => rw [HG.out];decide
  ·by_cases hrc : c = 0
   ·skip
    have en : (c != 0) = false := by simp [hrc]
    have ef : ((0 : Int) == c) = true := by simp;omega
    have hE : zNA false ((0 : Int) == c) p = 1 := rfl;have HP := hid (zyB (CK.out.now G.out) hE rfl);have x0 := PM.out.at (i := 0) rfl;have x1 := PM.out.at (i := 1) rfl;have x2 := PM.out.at (i := 2) rfl;have hle : (9 : Int) ≤ 9 := by decide
    clear hE ef hrc;go_wp2_with fail;refine HP.out.mono ?_;rintro e w1 ⟨rfl,b1⟩;obtain ⟨X1,hX1⟩ : ∃ X1,w1.alloc (ansO 1) = X1 := ⟨_,rfl⟩
    obtain ⟨bX,szX⟩ := zJA w1 (ansO 1);rw [hX1] at bX szX;have PX : Hid (Cel X1 w1.heap.size 55 (ansC 1)) := by unfold Hid;rw [← hX1];exact Cel.new w1 _ _
    have bW := below_step b1 bX;have PM1 := hid (PM.out.step bW);have G1 := hid (below_step G.out bW);have y0 := PM1.out.at (i := 0) rfl;have y1 := PM1.out.at (i := 1) rfl;have y2 := PM1.out.at (i := 2) rfl;rw [← hX1] at y0 y1 y2;have e4 : ((9 : Int) == 4) = false := rfl;have e7 : ((9 : Int) == 7) = false := rfl;have e9 : ((9 : Int) == 9) = true := rfl;have EX := hid hX1;have HS := hid (HSB.out X1);clear HP b1 bX szX hX1 bW x0 x1 x2 PM G;go_wp2_with fail;rw [EX.out];refine HS.out.mono ?_;rintro e w2 ⟨rfl,b2⟩;have PX2 := hid (PX.out.step b2);have PM2 := hid (PM1.out.step b2);have G2 := hid (below_step G1.out b2);have HM := hid (zsA (w := w2) (E := 1));have z0 := PX2.out.at (i := 0) rfl;have z1 := PX2.out.at (i := 1) rfl;have z2 := PX2.out.at (i := 2) rfl;have z3 := PX2.out.at (i := 3) rfl;have z4 := PX2.out.at (i := 4) rfl;have z5 := PX2.out.at (i := 5) rfl;have z6 := PX2.out.at (i := 6) rfl;have z7 := PX2.out.at (i := 7) rfl;clear HS EX y0 y1 y2 PX PM1 G1 e4 e7 e9 b2 en;go_wp2_with fail;refine HM.out.mono ?_;rintro e w3 ⟨rfl,b3⟩;have HN1 : Hid (RfH w r c a l cap (10 - (9 + 1) : Int).toNat (.int .i64 10) w3) := ⟨10,rfl,by decide,by decide,rfl,PM2.out.step b3,below_step G2.out b3⟩
    have hw : IntKind.i64.wrap ((9 : Int) + 1) = 10 := by decide
    clear HM PX2 PM2 G2 b3 z0 z1 z2 z3 z4 z5 z6 z7;go_wp2_with fail;go_roundg ((10 - (9 + 1) : Int).toNat)
    case rel => exact HN1.out
    case measure => rw [HG.out];decide
   ·skip
    have en : (c != 0) = true := by simp [hrc]
    have ef : ((0 : Int) == c) = false := by simp;omega
    have hE : zNA false ((0 : Int) == c) p = 1 := rfl;have HP := hid (zyB (CK.out.now G.out) hE rfl);have x0 := PM.out.at (i := 0) rfl;have x1 := PM.out.at (i := 1) rfl;have x2 := PM.out.at (i := 2) rfl;have hle : (9 : Int) ≤ 9 := by decide
    clear hE ef hrc;go_wp2_with fail;refine HP.out.mono ?_;rintro e w1 ⟨rfl,b1⟩;obtain ⟨X1,hX1⟩ : ∃ X1,w1.alloc (ansO 1) = X1 := ⟨_,rfl⟩
    obtain ⟨bX,szX⟩ := zJA w1 (ansO 1);rw [hX1] at bX szX;have PX : Hid (Cel X1 w1.heap.size 55 (ansC 1)) := by unfold Hid;rw [← hX1];exact Cel.new w1 _ _
    have bW := below_step b1 bX;have PM1 := hid (PM.out.step bW);have G1 := hid (below_step G.out bW);have y0 := PM1.out.at (i := 0) rfl;have y1 := PM1.out.at (i := 1) rfl;have y2 := PM1.out.at (i := 2) rfl;rw [← hX1] at y0 y1 y2;have e4 : ((9 : Int) == 4) = false := rfl;have e7 : ((9 : Int) == 7) = false := rfl;have e9 : ((9 : Int) == 9) = true := rfl;have EX := hid hX1;have HS := hid (HSB.out X1);clear HP b1 bX szX hX1 bW x0 x1 x2 PM G;go_wp2_with fail;rw [EX.out];refine HS.out.mono ?_;rintro e w2 ⟨rfl,b2⟩;have PX2 := hid (PX.out.step b2);have PM2 := hid (PM1.out.step b2);have G2 := hid (below_step G1.out b2);have HM := hid (zsA (w := w2) (E := 1));have z0 := PX2.out.at (i := 0) rfl;have z1 := PX2.out.at (i := 1) rfl;have z2 := PX2.out.at (i := 2) rfl;have z3 := PX2.out.at (i := 3) rfl;have z4 := PX2.out.at (i := 4) rfl;have z5 := PX2.out.at (i := 5) rfl;have z6 := PX2.out.at (i := 6) rfl;have z7 := PX2.out.at (i := 7) rfl;clear HS EX y0 y1 y2 PX PM1 G1 e4 e7 e9 b2 en;go_wp2_with fail;refine HM.out.mono ?_;rintro e w3 ⟨rfl,b3⟩;have HN1 : Hid (RfH w r c a l cap (10 - (9 + 1) : Int).toNat (.int .i64 10) w3) := ⟨10,rfl,by decide,by decide,rfl,PM2.out.step b3,below_step G2.out b3⟩
    have hw : IntKind.i64.wrap ((9 : Int) + 1) = 10 := by decide
    clear HM PX2 PM2 G2 b3 z0 z1 z2 z3 z4 z5 z6 z7;go_wp2_with fail;go_roundg ((10 - (9 + 1) : Int).toNat)
    case rel => exact HN1.out
    case measure => rw [HG.out];decide
  ·have hle : ¬ (10 : Int) ≤ 9 := by decide
   clear HG PM;go_wp2;go_ret;exact ⟨rfl,G.out⟩
theorem refuses_no {w : World} {r c : Int} {a : Option Addr} {l cap p : Nat} (hl : l ≤ 1048576) (hs : Snd r c l) (hg : gdB p = false) (hc : znB w r c a l cap true) :
  Calls Tryz.prog 8 #[mrV r c a l cap,.int .u64 (p : Int)] w fun e w' => e = .returned (.bool true) ∧ Below w.heap.size w w' := by
 have HSB : Hid (∀ w',Calls Tryz.prog 6 #[mrV r c a l cap] w' fun e w'' => e = .returned (.bool true) ∧ Below w'.heap.size w' w'') := fun w' => zyD (s := true) hl ⟨fun _ => hs,fun _ => rfl⟩
 have GD := hid hg;obtain ⟨W0,hW⟩ : ∃ W0,w.alloc (mrO r c a l cap) = W0 := ⟨_,rfl⟩
 obtain ⟨b0,sz0⟩ := zJA w (mrO r c a l cap);rw [hW] at b0 sz0;have P1 : Hid (Cel W0 w.heap.size 24 (mrC r c a l cap)) := by unfold Hid;rw [← hW];exact Cel.new w _ _
 have HS0 := hid (HSB.out W0);have x0 := P1.out.at (i := 0) rfl;have x1 := P1.out.at (i := 1) rfl;have x2 := P1.out.at (i := 2) rfl;rw [← hW] at x0 x1 x2;have CK := hid hc;have G0 := hid b0;have EW := hid hW;clear b0 sz0 hW hs hc hg;go_enter Tryz.func8,Tryz.ntmps8;go_wp2_with fail;rw [EW.out];refine HS0.out.mono ?_;rintro e w0 ⟨rfl,b⟩;have H0 : Hid (RfH w r c a l cap 7 (.int .i64 3) w0) := ⟨3,rfl,by decide,by decide,rfl,P1.out.step b,below_step G0.out b⟩
 clear HS0 b x0 x1 x2 EW G0 P1;go_wp2_with fail;refine (zFE (p := p)).mono ?_;rintro e w9 ⟨rfl,hw9⟩;have hw9' := hw9.symm;subst hw9';rw [GD.out];clear hw9;go_wp2_with fail
 go_loopg [5] 7 (fun gk s5 wx => RfH w r c a l cap gk s5 wx)
 case atStart => exact H0.out
 case round =>
  clear H0;obtain ⟨k,rfl,hk3,hk10,hg,hm,hG⟩ := hrel;have PM := hid hm;have G := hid hG;have HG := hid hg;clear hm hG hg;have hcs : k = 3 ∨ k = 4 ∨ k = 5 ∨ k = 6 ∨ k = 7 ∨ k = 8 ∨ k = 9 ∨ k = 10 := by omega
  rcases hcs with rfl | rfl | rfl | rfl | rfl | rfl | rfl | rfl
  ·skip
   have hE : zNA true true p = 9 := by unfold zNA;rw [GD.out];rfl
   have HP := hid (zWD (CK.out.now G.out) hE rfl);have x0 := PM.out.at (i := 0) rfl;have x1 := PM.out.at (i := 1) rfl;have x2 := PM.out.at (i := 2) rfl;have hle : (3 : Int) ≤ 9 := by decide
   clear hE;go_wp2_with fail;refine HP.out.mono ?_;rintro e w1 ⟨rfl,b1⟩;obtain ⟨X1,hX1⟩ : ∃ X1,w1.alloc (ansO 9) = X1 := ⟨_,rfl⟩
   obtain ⟨bX,szX⟩ := zJA w1 (ansO 9);rw [hX1] at bX szX;have PX : Hid (Cel X1 w1.heap.size 55 (ansC 9)) := by unfold Hid;rw [← hX1];exact Cel.new w1 _ _
   have bW := below_step b1 bX;have PM1 := hid (PM.out.step bW);have G1 := hid (below_step G.out bW);have y0 := PM1.out.at (i := 0) rfl;have y1 := PM1.out.at (i := 1) rfl;have y2 := PM1.out.at (i := 2) rfl;rw [← hX1] at y0 y1 y2;have e4 : ((3 : Int) == 4) = false := rfl;have e7 : ((3 : Int) == 7) = false := rfl;have e9 : ((3 : Int) == 9) = false := rfl;have EX := hid hX1;have HS := hid (HSB.out X1);clear HP b1 bX szX hX1 bW x0 x1 x2 PM G;go_wp2_with fail;rw [EX.out];refine HS.out.mono ?_;rintro e w2 ⟨rfl,b2⟩;have PX2 := hid (PX.out.step b2);have PM2 := hid (PM1.out.step b2);have G2 := hid (below_step G1.out b2);have HM := hid (zsA (w := w2) (E := 9));have z0 := PX2.out.at (i := 0) rfl;have z1 := PX2.out.at (i := 1) rfl;have z2 := PX2.out.at (i := 2) rfl;have z3 := PX2.out.at (i := 3) rfl;have z4 := PX2.out.at (i := 4) rfl;have z5 := PX2.out.at (i := 5) rfl;have z6 := PX2.out.at (i := 6) rfl;have z7 := PX2.out.at (i := 7) rfl;clear HS EX y0 y1 y2 PX PM1 G1 e4 e7 e9 b2;go_wp2_with fail;refine HM.out.mono ?_;rintro e w3 ⟨rfl,b3⟩;have HN1 : Hid (RfH w r c a l cap (10 - (3 + 1) : Int).toNat (.int .i64 4) w3) := ⟨4,rfl,by decide,by decide,rfl,PM2.out.step b3,below_step G2.out b3⟩
   have hw : IntKind.i64.wrap ((3 : Int) + 1) = 4 := by decide
   clear HM PX2 PM2 G2 b3 z0 z1 z2 z3 z4 z5 z6 z7;go_wp2_with fail;go_roundg ((10 - (3 + 1) : Int).toNat)
   case rel => exact HN1.out
   case measure => rw [HG.out];decide
  ·by_cases hrc : r = c
   ·skip
    have en : (r != c) = false := by simp [hrc]
    have ef : (r == c) = true := by simp [hrc]
    have hE : zNA true (r == c) p = 9 := by unfold zNA;rw [ef];rw [GD.out];rfl
    have HP := hid (zuC (CK.out.now G.out) hE rfl);have x0 := PM.out.at (i := 0) rfl;have x1 := PM.out.at (i := 1) rfl;have x2 := PM.out.at (i := 2) rfl;have hle : (4 : Int) ≤ 9 := by decide
    clear hE ef hrc;go_wp2_with fail;refine HP.out.mono ?_;rintro e w1 ⟨rfl,b1⟩;obtain ⟨X1,hX1⟩ : ∃ X1,w1.alloc (ansO 9) = X1 := ⟨_,rfl⟩
    obtain ⟨bX,szX⟩ := zJA w1 (ansO 9);rw [hX1] at bX szX;have PX : Hid (Cel X1 w1.heap.size 55 (ansC 9)) := by unfold Hid;rw [← hX1];exact Cel.new w1 _ _
    have bW := below_step b1 bX;have PM1 := hid (PM.out.step bW);have G1 := hid (below_step G.out bW);have y0 := PM1.out.at (i := 0) rfl;have y1 := PM1.out.at (i := 1) rfl;have y2 := PM1.out.at (i := 2) rfl;rw [← hX1] at y0 y1 y2;have e4 : ((4 : Int) == 4) = true := rfl;have e7 : ((4 : Int) == 7) = false := rfl;have e9 : ((4 : Int) == 9) = false := rfl;have EX := hid hX1;have HS := hid (HSB.out X1);clear HP b1 bX szX hX1 bW x0 x1 x2 PM G;go_wp2_with fail;rw [EX.out];refine HS.out.mono ?_;rintro e w2 ⟨rfl,b2⟩;have PX2 := hid (PX.out.step b2);have PM2 := hid (PM1.out.step b2);have G2 := hid (below_step G1.out b2);have HM := hid (zsA (w := w2) (E := 9));have z0 := PX2.out.at (i := 0) rfl;have z1 := PX2.out.at (i := 1) rfl;have z2 := PX2.out.at (i := 2) rfl;have z3 := PX2.out.at (i := 3) rfl;have z4 := PX2.out.at (i := 4) rfl;have z5 := PX2.out.at (i := 5) rfl;have z6 := PX2.out.at (i := 6) rfl;have z7 := PX2.out.at (i := 7) rfl;clear HS EX y0 y1 y2 PX PM1 G1 e4 e7 e9 b2 en;go_wp2_with fail;refine HM.out.mono ?_;rintro e w3 ⟨rfl,b3⟩;have HN1 : Hid (RfH w r c a l cap (10 - (4 + 1) : Int).toNat (.int .i64 5) w3) := ⟨5,rfl,by decide,by decide,rfl,PM2.out.step b3,below_step G2.out b3⟩
    have hw : IntKind.i64.wrap ((4 : Int) + 1) = 5 := by decide
    clear HM PX2 PM2 G2 b3 z0 z1 z2 z3 z4 z5 z6 z7;go_wp2_with fail;go_roundg ((10 - (4 + 1) : Int).toNat)
    case rel => exact HN1.out
    case measure => rw [HG.out];decide
   ·skip
    have en : (r != c) = true := by simp [hrc]
    have ef : (r == c) = false := by simp [hrc]
    have hE : zNA true (r == c) p = 2 := by unfold zNA;rw [ef];rfl
    have HP := hid (zuC (CK.out.now G.out) hE rfl);have x0 := PM.out.at (i := 0) rfl;have x1 := PM.out.at (i := 1) rfl;have x2 := PM.out.at (i := 2) rfl;have hle : (4 : Int) ≤ 9 := by decide
    clear hE ef hrc;go_wp2_with fail;refine HP.out.mono ?_;rintro e w1 ⟨rfl,b1⟩;obtain ⟨X1,hX1⟩ : ∃ X1,w1.alloc (ansO 2) = X1 := ⟨_,rfl⟩
    obtain ⟨bX,szX⟩ := zJA w1 (ansO 2);rw [hX1] at bX szX;have PX : Hid (Cel X1 w1.heap.size 55 (ansC 2)) := by unfold Hid;rw [← hX1];exact Cel.new w1 _ _
    have bW := below_step b1 bX;have PM1 := hid (PM.out.step bW);have G1 := hid (below_step G.out bW);have y0 := PM1.out.at (i := 0) rfl;have y1 := PM1.out.at (i := 1) rfl;have y2 := PM1.out.at (i := 2) rfl;rw [← hX1] at y0 y1 y2;have e4 : ((4 : Int) == 4) = true := rfl;have e7 : ((4 : Int) == 7) = false := rfl;have e9 : ((4 : Int) == 9) = false := rfl;have EX := hid hX1;have HS := hid (HSB.out X1);clear HP b1 bX szX hX1 bW x0 x1 x2 PM G;go_wp2_with fail;rw [EX.out];refine HS.out.mono ?_;rintro e w2 ⟨rfl,b2⟩;have PX2 := hid (PX.out.step b2);have PM2 := hid (PM1.out.step b2);have G2 := hid (below_step G1.out b2);have HM := hid (zsA (w := w2) (E := 2));have z0 := PX2.out.at (i := 0) rfl;have z1 := PX2.out.at (i := 1) rfl;have z2 := PX2.out.at (i := 2) rfl;have z3 := PX2.out.at (i := 3) rfl;have z4 := PX2.out.at (i := 4) rfl;have z5 := PX2.out.at (i := 5) rfl;have z6 := PX2.out.at (i := 6) rfl;have z7 := PX2.out.at (i := 7) rfl;clear HS EX y0 y1 y2 PX PM1 G1 e4 e7 e9 b2 en;go_wp2_with fail;refine HM.out.mono ?_;rintro e w3 ⟨rfl,b3⟩;have HN1 : Hid (RfH w r c a l cap (10 - (4 + 1) : Int).toNat (.int .i64 5) w3) := ⟨5,rfl,by decide,by decide,rfl,PM2.out.step b3,below_step G2.out b3⟩
    have hw : IntKind.i64.wrap ((4 : Int) + 1) = 5 := by decide
    clear HM PX2 PM2 G2 b3 z0 z1 z2 z3 z4 z5 z6 z7;go_wp2_with fail;go_roundg ((10 - (4 + 1) : Int).toNat)
    case rel => exact HN1.out
    case measure => rw [HG.out];decide
  ·skip
   have hE : zNA true true p = 9 := by unfold zNA;rw [GD.out];rfl
   have HP := hid (zhE (CK.out.now G.out) hE rfl);have x0 := PM.out.at (i := 0) rfl;have x1 := PM.out.at (i := 1) rfl;have x2 := PM.out.at (i := 2) rfl;have hle : (5 : Int) ≤ 9 := by decide
   clear hE;go_wp2_with fail;refine HP.out.mono ?_;rintro e w1 ⟨rfl,b1⟩;obtain ⟨X1,hX1⟩ : ∃ X1,w1.alloc (ansO 9) = X1 := ⟨_,rfl⟩
   obtain ⟨bX,szX⟩ := zJA w1 (ansO 9);rw [hX1] at bX szX;have PX : Hid (Cel X1 w1.heap.size 55 (ansC 9)) := by unfold Hid;rw [← hX1];exact Cel.new w1 _ _
   have bW := below_step b1 bX;have PM1 := hid (PM.out.step bW);have G1 := hid (below_step G.out bW);have y0 := PM1.out.at (i := 0) rfl;have y1 := PM1.out.at (i := 1) rfl;have y2 := PM1.out.at (i := 2) rfl;rw [← hX1] at y0 y1 y2;have e4 : ((5 : Int) == 4) = false := rfl;have e7 : ((5 : Int) == 7) = false := rfl;have e9 : ((5 : Int) == 9) = false := rfl;have EX := hid hX1;have HS := hid (HSB.out X1);clear HP b1 bX szX hX1 bW x0 x1 x2 PM G;go_wp2_with fail;rw [EX.out];refine HS.out.mono ?_;rintro e w2 ⟨rfl,b2⟩;have PX2 := hid (PX.out.step b2);have PM2 := hid (PM1.out.step b2);have G2 := hid (below_step G1.out b2);have HM := hid (zsA (w := w2) (E := 9));have z0 := PX2.out.at (i := 0) rfl;have z1 := PX2.out.at (i := 1) rfl;have z2 := PX2.out.at (i := 2) rfl;have z3 := PX2.out.at (i := 3) rfl;have z4 := PX2.out.at (i := 4) rfl;have z5 := PX2.out.at (i := 5) rfl;have z6 := PX2.out.at (i := 6) rfl;have z7 := PX2.out.at (i := 7) rfl;clear HS EX y0 y1 y2 PX PM1 G1 e4 e7 e9 b2;go_wp2_with fail;refine HM.out.mono ?_;rintro e w3 ⟨rfl,b3⟩;have HN1 : Hid (RfH w r c a l cap (10 - (5 + 1) : Int).toNat (.int .i64 6) w3) := ⟨6,rfl,by decide,by decide,rfl,PM2.out.step b3,below_step G2.out b3⟩
   have hw : IntKind.i64.wrap ((5 : Int) + 1) = 6 := by decide
   clear HM PX2 PM2 G2 b3 z0 z1 z2 z3 z4 z5 z6 z7;go_wp2_with fail;go_roundg ((10 - (5 + 1) : Int).toNat)
   case rel => exact HN1.out
   case measure => rw [HG.out];decide
  ·skip
   have hE : zNA true true p = 9 := by unfold zNA;rw [GD.out];rfl
   have HP := hid (ztC (CK.out.now G.out) hE rfl);have x0 := PM.out.at (i := 0) rfl;have x1 := PM.out.at (i := 1) rfl;have x2 := PM.out.at (i := 2) rfl;have hle : (6 : Int) ≤ 9 := by decide
   clear hE;go_wp2_with fail;refine HP.out.mono ?_;rintro e w1 ⟨rfl,b1⟩;obtain ⟨X1,hX1⟩ : ∃ X1,w1.alloc (ansO 9) = X1 := ⟨_,rfl⟩
   obtain ⟨bX,szX⟩ := zJA w1 (ansO 9);rw [hX1] at bX szX;have PX : Hid (Cel X1 w1.heap.size 55 (ansC 9)) := by unfold Hid;rw [← hX1];exact Cel.new w1 _ _
   have bW := below_step b1 bX;have PM1 := hid (PM.out.step bW);have G1 := hid (below_step G.out bW);have y0 := PM1.out.at (i := 0) rfl;have y1 := PM1.out.at (i := 1) rfl;have y2 := PM1.out.at (i := 2) rfl;rw [← hX1] at y0 y1 y2;have e4 : ((6 : Int) == 4) = false := rfl;have e7 : ((6 : Int) == 7) = false := rfl;have e9 : ((6 : Int) == 9) = false := rfl;have EX := hid hX1;have HS := hid (HSB.out X1);clear HP b1 bX szX hX1 bW x0 x1 x2 PM G;go_wp2_with fail;rw [EX.out];refine HS.out.mono ?_;rintro e w2 ⟨rfl,b2⟩;have PX2 := hid (PX.out.step b2);have PM2 := hid (PM1.out.step b2);have G2 := hid (below_step G1.out b2);have HM := hid (zsA (w := w2) (E := 9));have z0 := PX2.out.at (i := 0) rfl;have z1 := PX2.out.at (i := 1) rfl;have z2 := PX2.out.at (i := 2) rfl;have z3 := PX2.out.at (i := 3) rfl;have z4 := PX2.out.at (i := 4) rfl;have z5 := PX2.out.at (i := 5) rfl;have z6 := PX2.out.at (i := 6) rfl;have z7 := PX2.out.at (i := 7) rfl;clear HS EX y0 y1 y2 PX PM1 G1 e4 e7 e9 b2;go_wp2_with fail;refine HM.out.mono ?_;rintro e w3 ⟨rfl,b3⟩;have HN1 : Hid (RfH w r c a l cap (10 - (6 + 1) : Int).toNat (.int .i64 7) w3) := ⟨7,rfl,by decide,by decide,rfl,PM2.out.step b3,below_step G2.out b3⟩
   have hw : IntKind.i64.wrap ((6 : Int) + 1) = 7 := by decide
   clear HM PX2 PM2 G2 b3 z0 z1 z2 z3 z4 z5 z6 z7;go_wp2_with fail;go_roundg ((10 - (6 + 1) : Int).toNat)
   case rel => exact HN1.out
   case measure => rw [HG.out];decide
  ·by_cases hrc : r = c
   ·skip
    have en : (r != c) = false := by simp [hrc]
    have ef : (r == c) = true := by simp [hrc]
    have hE : zNA true (r == c) p = 9 := by unfold zNA;rw [ef];rw [GD.out];rfl
    have HP := hid (zOB (CK.out.now G.out) hE rfl);have x0 := PM.out.at (i := 0) rfl;have x1 := PM.out.at (i := 1) rfl;have x2 := PM.out.at (i := 2) rfl;have hle : (7 : Int) ≤ 9 := by decide
    clear hE ef hrc;go_wp2_with fail;refine HP.out.mono ?_;rintro e w1 ⟨rfl,b1⟩;obtain ⟨X1,hX1⟩ : ∃ X1,w1.alloc (ansO 9) = X1 := ⟨_,rfl⟩
    obtain ⟨bX,szX⟩ := zJA w1 (ansO 9);rw [hX1] at bX szX;have PX : Hid (Cel X1 w1.heap.size 55 (ansC 9)) := by unfold Hid;rw [← hX1];exact Cel.new w1 _ _
    have bW := below_step b1 bX;have PM1 := hid (PM.out.step bW);have G1 := hid (below_step G.out bW);have y0 := PM1.out.at (i := 0) rfl;have y1 := PM1.out.at (i := 1) rfl;have y2 := PM1.out.at (i := 2) rfl;rw [← hX1] at y0 y1 y2;have e4 : ((7 : Int) == 4) = false := rfl;have e7 : ((7 : Int) == 7) = true := rfl;have e9 : ((7 : Int) == 9) = false := rfl;have EX := hid hX1;have HS := hid (HSB.out X1);clear HP b1 bX szX hX1 bW x0 x1 x2 PM G;go_wp2_with fail;rw [EX.out];refine HS.out.mono ?_;rintro e w2 ⟨rfl,b2⟩;have PX2 := hid (PX.out.step b2);have PM2 := hid (PM1.out.step b2);have G2 := hid (below_step G1.out b2);have HM := hid (zsA (w := w2) (E := 9));have z0 := PX2.out.at (i := 0) rfl;have z1 := PX2.out.at (i := 1) rfl;have z2 := PX2.out.at (i := 2) rfl;have z3 := PX2.out.at (i := 3) rfl;have z4 := PX2.out.at (i := 4) rfl;have z5 := PX2.out.at (i := 5) rfl;have z6 := PX2.out.at (i := 6) rfl;have z7 := PX2.out.at (i := 7) rfl;clear HS EX y0 y1 y2 PX PM1 G1 e4 e7 e9 b2 en;go_wp2_with fail;refine HM.out.mono ?_;rintro e w3 ⟨rfl,b3⟩;have HN1 : Hid (RfH w r c a l cap (10 - (7 + 1) : Int).toNat (.int .i64 8) w3) := ⟨8,rfl,by decide,by decide,rfl,PM2.out.step b3,below_step G2.out b3⟩
    have hw : IntKind.i64.wrap ((7 : Int) + 1) = 8 := by decide
    clear HM PX2 PM2 G2 b3 z0 z1 z2 z3 z4 z5 z6 z7;go_wp2_with fail;go_roundg ((10 - (7 + 1) : Int).toNat)
    case rel => exact HN1.out
    case measure => rw [HG.out];decide
   ·skip
    have en : (r != c) = true := by simp [hrc]
    have ef : (r == c) = false := by simp [hrc]
    have hE : zNA true (r == c) p = 2 := by unfold zNA;rw [ef];rfl
    have HP := hid (zOB (CK.out.now G.out) hE rfl);have x0 := PM.out.at (i := 0) rfl;have x1 := PM.out.at (i := 1) rfl;have x2 := PM.out.at (i := 2) rfl;have hle : (7 : Int) ≤ 9 := by decide
    clear hE ef hrc;go_wp2_with fail;refine HP.out.mono ?_;rintro e w1 ⟨rfl,b1⟩;obtain ⟨X1,hX1⟩ : ∃ X1,w1.alloc (ansO 2) = X1 := ⟨_,rfl⟩
    obtain ⟨bX,szX⟩ := zJA w1 (ansO 2);rw [hX1] at bX szX;have PX : Hid (Cel X1 w1.heap.size 55 (ansC 2)) := by unfold Hid;rw [← hX1];exact Cel.new w1 _ _
    have bW := below_step b1 bX;have PM1 := hid (PM.out.step bW);have G1 := hid (below_step G.out bW);have y0 := PM1.out.at (i := 0) rfl;have y1 := PM1.out.at (i := 1) rfl;have y2 := PM1.out.at (i := 2) rfl;rw [← hX1] at y0 y1 y2;have e4 : ((7 : Int) == 4) = false := rfl;have e7 : ((7 : Int) == 7) = true := rfl;have e9 : ((7 : Int) == 9) = false := rfl;have EX := hid hX1;have HS := hid (HSB.out X1);clear HP b1 bX szX hX1 bW x0 x1 x2 PM G;go_wp2_with fail;rw [EX.out];refine HS.out.mono ?_;rintro e w2 ⟨rfl,b2⟩;have PX2 := hid (PX.out.step b2);have PM2 := hid (PM1.out.step b2);have G2 := hid (below_step G1.out b2);have HM := hid (zsA (w := w2) (E := 2));have z0 := PX2.out.at (i := 0) rfl;have z1 := PX2.out.at (i := 1) rfl;have z2 := PX2.out.at (i := 2) rfl;have z3 := PX2.out.at (i := 3) rfl;have z4 := PX2.out.at (i := 4) rfl;have z5 := PX2.out.at (i := 5) rfl;have z6 := PX2.out.at (i := 6) rfl;have z7 := PX2.out.at (i := 7) rfl;clear HS EX y0 y1 y2 PX PM1 G1 e4 e7 e9 b2 en;go_wp2_with fail;refine HM.out.mono ?_;rintro e w3 ⟨rfl,b3⟩;have HN1 : Hid (RfH w r c a l cap (10 - (7 + 1) : Int).toNat (.int .i64 8) w3) := ⟨8,rfl,by decide,by decide,rfl,PM2.out.step b3,below_step G2.out b3⟩
    have hw : IntKind.i64.wrap ((7 : Int) + 1) = 8 := by decide
    clear HM PX2 PM2 G2 b3 z0 z1 z2 z3 z4 z5 z6 z7;go_wp2_with fail;go_roundg ((10 - (7 + 1) : Int).toNat)
    case rel => exact HN1.out
    case measure => rw [HG.out];decide
  ·skip
   have hE : zNA true true p = 9 := by unfold zNA;rw [GD.out];rfl
   have HP := hid (zXD (CK.out.now G.out) hE rfl);have x0 := PM.out.at (i := 0) rfl;have x1 := PM.out.at (i := 1) rfl;have x2 := PM.out.at (i := 2) rfl;have hle : (8 : Int) ≤ 9 := by decide
   clear hE;go_wp2_with fail;refine HP.out.mono ?_;rintro e w1 ⟨rfl,b1⟩;obtain ⟨X1,hX1⟩ : ∃ X1,w1.alloc (ansO 9) = X1 := ⟨_,rfl⟩
   obtain ⟨bX,szX⟩ := zJA w1 (ansO 9);rw [hX1] at bX szX;have PX : Hid (Cel X1 w1.heap.size 55 (ansC 9)) := by unfold Hid;rw [← hX1];exact Cel.new w1 _ _
   have bW := below_step b1 bX;have PM1 := hid (PM.out.step bW);have G1 := hid (below_step G.out bW);have y0 := PM1.out.at (i := 0) rfl;have y1 := PM1.out.at (i := 1) rfl;have y2 := PM1.out.at (i := 2) rfl;rw [← hX1] at y0 y1 y2;have e4 : ((8 : Int) == 4) = false := rfl;have e7 : ((8 : Int) == 7) = false := rfl;have e9 : ((8 : Int) == 9) = false := rfl;have EX := hid hX1;have HS := hid (HSB.out X1);clear HP b1 bX szX hX1 bW x0 x1 x2 PM G;go_wp2_with fail;rw [EX.out];refine HS.out.mono ?_;rintro e w2 ⟨rfl,b2⟩;have PX2 := hid (PX.out.step b2);have PM2 := hid (PM1.out.step b2);have G2 := hid (below_step G1.out b2);have HM := hid (zsA (w := w2) (E := 9));have z0 := PX2.out.at (i := 0) rfl;have z1 := PX2.out.at (i := 1) rfl;have z2 := PX2.out.at (i := 2) rfl;have z3 := PX2.out.at (i := 3) rfl;have z4 := PX2.out.at (i := 4) rfl;have z5 := PX2.out.at (i := 5) rfl;have z6 := PX2.out.at (i := 6) rfl;have z7 := PX2.out.at (i := 7) rfl;clear HS EX y0 y1 y2 PX PM1 G1 e4 e7 e9 b2;go_wp2_with fail;refine HM.out.mono ?_;rintro e w3 ⟨rfl,b3⟩;have HN1 : Hid (RfH w r c a l cap (10 - (8 + 1) : Int).toNat (.int .i64 9) w3) := ⟨9,rfl,by decide,by decide,rfl,PM2.out.step b3,below_step G2.out b3⟩
   have hw : IntKind.i64.wrap ((8 : Int) + 1) = 9 := by decide
   clear HM PX2 PM2 G2 b3 z0 z1 z2 z3 z4 z5 z6 z7;go_wp2_with fail;go_roundg ((10 - (8 + 1) : Int).toNat)
   case rel => exact HN1.out
   case measure => rw [HG.out];decide
  ·by_cases hrc : c = 0
   ·skip
    have en : (c != 0) = false := by simp [hrc]
    have ef : ((0 : Int) == c) = true := by simp;omega
    have hE : zNA true ((0 : Int) == c) p = 9 := by unfold zNA;rw [ef];rw [GD.out];rfl
    have HP := hid (zyB (CK.out.now G.out) hE rfl);have x0 := PM.out.at (i := 0) rfl;have x1 := PM.out.at (i := 1) rfl;have x2 := PM.out.at (i := 2) rfl;have hle : (9 : Int) ≤ 9 := by decide
    clear hE ef hrc;go_wp2_with fail;refine HP.out.mono ?_;rintro e w1 ⟨rfl,b1⟩;obtain ⟨X1,hX1⟩ : ∃ X1,w1.alloc (ansO 9) = X1 := ⟨_,rfl⟩
    obtain ⟨bX,szX⟩ := zJA w1 (ansO 9);rw [hX1] at bX szX;have PX : Hid (Cel X1 w1.heap.size 55 (ansC 9)) := by unfold Hid;rw [← hX1];exact Cel.new w1 _ _
    have bW := below_step b1 bX;have PM1 := hid (PM.out.step bW);have G1 := hid (below_step G.out bW);have y0 := PM1.out.at (i := 0) rfl;have y1 := PM1.out.at (i := 1) rfl;have y2 := PM1.out.at (i := 2) rfl;rw [← hX1] at y0 y1 y2;have e4 : ((9 : Int) == 4) = false := rfl;have e7 : ((9 : Int) == 7) = false := rfl;have e9 : ((9 : Int) == 9) = true := rfl;have EX := hid hX1;have HS := hid (HSB.out X1);clear HP b1 bX szX hX1 bW x0 x1 x2 PM G;go_wp2_with fail;rw [EX.out];refine HS.out.mono ?_;rintro e w2 ⟨rfl,b2⟩;have PX2 := hid (PX.out.step b2);have PM2 := hid (PM1.out.step b2);have G2 := hid (below_step G1.out b2);have HM := hid (zsA (w := w2) (E := 9));have z0 := PX2.out.at (i := 0) rfl;have z1 := PX2.out.at (i := 1) rfl;have z2 := PX2.out.at (i := 2) rfl;have z3 := PX2.out.at (i := 3) rfl;have z4 := PX2.out.at (i := 4) rfl;have z5 := PX2.out.at (i := 5) rfl;have z6 := PX2.out.at (i := 6) rfl;have z7 := PX2.out.at (i := 7) rfl;clear HS EX y0 y1 y2 PX PM1 G1 e4 e7 e9 b2 en;go_wp2_with fail;refine HM.out.mono ?_;rintro e w3 ⟨rfl,b3⟩;have HN1 : Hid (RfH w r c a l cap (10 - (9 + 1) : Int).toNat (.int .i64 10) w3) := ⟨10,rfl,by decide,by decide,rfl,PM2.out.step b3,below_step G2.out b3⟩
    have hw : IntKind.i64.wrap ((9 : Int) + 1) = 10 := by decide
    clear HM PX2 PM2 G2 b3 z0 z1 z2 z3 z4 z5 z6 z7;go_wp2_with fail;go_roundg ((10 - (9 + 1) : Int).toNat)
    case rel => exact HN1.out
    case measure => rw [HG.out];decide
   ·skip
    have en : (c != 0) = true := by simp [hrc]
    have ef : ((0 : Int) == c) = false := by simp;omega
    have hE : zNA true ((0 : Int) == c) p = 2 := by unfold zNA;rw [ef];rfl
    have HP := hid (zyB (CK.out.now G.out) hE rfl);have x0 := PM.out.at (i := 0) rfl;have x1 := PM.out.at (i := 1) rfl;have x2 := PM.out.at (i := 2) rfl;have hle : (9 : Int) ≤ 9 := by decide
    clear hE ef hrc;go_wp2_with fail;refine HP.out.mono ?_;rintro e w1 ⟨rfl,b1⟩;obtain ⟨X1,hX1⟩ : ∃ X1,w1.alloc (ansO 2) = X1 := ⟨_,rfl⟩
    obtain ⟨bX,szX⟩ := zJA w1 (ansO 2);rw [hX1] at bX szX;have PX : Hid (Cel X1 w1.heap.size 55 (ansC 2)) := by unfold Hid;rw [← hX1];exact Cel.new w1 _ _
    have bW := below_step b1 bX;have PM1 := hid (PM.out.step bW);have G1 := hid (below_step G.out bW);have y0 := PM1.out.at (i := 0) rfl;have y1 := PM1.out.at (i := 1) rfl;have y2 := PM1.out.at (i := 2) rfl;rw [← hX1] at y0 y1 y2;have e4 : ((9 : Int) == 4) = false := rfl;have e7 : ((9 : Int) == 7) = false := rfl;have e9 : ((9 : Int) == 9) = true := rfl;have EX := hid hX1;have HS := hid (HSB.out X1);clear HP b1 bX szX hX1 bW x0 x1 x2 PM G;go_wp2_with fail;rw [EX.out];refine HS.out.mono ?_;rintro e w2 ⟨rfl,b2⟩;have PX2 := hid (PX.out.step b2);have PM2 := hid (PM1.out.step b2);have G2 := hid (below_step G1.out b2);have HM := hid (zsA (w := w2) (E := 2));have z0 := PX2.out.at (i := 0) rfl;have z1 := PX2.out.at (i := 1) rfl;have z2 := PX2.out.at (i := 2) rfl;have z3 := PX2.out.at (i := 3) rfl;have z4 := PX2.out.at (i := 4) rfl;have z5 := PX2.out.at (i := 5) rfl;have z6 := PX2.out.at (i := 6) rfl;have z7 := PX2.out.at (i := 7) rfl;clear HS EX y0 y1 y2 PX PM1 G1 e4 e7 e9 b2 en;go_wp2_with fail;refine HM.out.mono ?_;rintro e w3 ⟨rfl,b3⟩;have HN1 : Hid (RfH w r c a l cap (10 - (9 + 1) : Int).toNat (.int .i64 10) w3) := ⟨10,rfl,by decide,by decide,rfl,PM2.out.step b3,below_step G2.out b3⟩
    have hw : IntKind.i64.wrap ((9 : Int) + 1) = 10 := by decide
    clear HM PX2 PM2 G2 b3 z0 z1 z2 z3 z4 z5 z6 z7;go_wp2_with fail;go_roundg ((10 - (9 + 1) : Int).toNat)
    case rel => exact HN1.out
    case measure => rw [HG.out];decide
  ·have hle : ¬ (10 : Int) ≤ 9 := by decide
   clear HG PM;go_wp2;go_ret;exact ⟨rfl,G.out⟩
end Go.Proofs.YtnfkibjoconphaaGreat
