import Derived.Test.YtlhjogiefbjklaaQSharesToGcdParts
import Derived.Deep.RegionHeld3
set_option maxRecDepth 100000
set_option maxHeartbeats 6400000
set_option linter.unusedVariables false
set_option linter.unusedSimpArgs false
namespace Go.Proofs.Ytlhjogiefbjklaa
open Go.RowKit
theorem zKE {w : World} {v u : Value} {xs ys : List Int} (h : Sl w.heap.size w v xs) (h' : Sl w.heap.size w u ys) (hge : val ys ≤ val xs) :
  Calls Try.prog 58 #[v,u] w fun e w' => ∃ zs a cap,e = .returned (.tuple #[.slice a zs.length cap,.int .i64 0]) ∧ Own w.heap.size w' (.slice a zs.length cap) zs ∧ zEA zs ∧ val zs = val xs - val ys ∧ Below w.heap.size w w' :=
 (ztE h h' hge).mono fun e w' ht => by
  obtain ⟨zs,cap,r,h1,h2,h3,h4,h5,h6,h7,h8,h9⟩ := ht;subst h5;exact ⟨zs,_,_,h1,⟨h2.1,.inr ⟨w.heap.size,r,Nat.le_refl _,h6,rfl,h7⟩⟩,h2,h3,h8⟩
def zIE (w : World) (u : Int) (e : Ending) (w' : World) : Prop := ∃ zs r,e = .returned r ∧ Own w.heap.size w' r zs ∧ zEA zs ∧ val zs = u ∧ Below w.heap.size w w'
theorem of_plain {w : World} {va vb : Value} {xs ys : List Int} {A B : Int} (ha : Sl w.heap.size w va xs) (hb : Sl w.heap.size w vb ys) (lx : xs.length < 35184372088832) (ly : ys.length < 35184372088832) (hA0 : 0 ≤ A) (hA1 : A ≤ 1152921504606846976) (hB0 : -1152921504606846976 ≤ B) (hB1 : B ≤ 0) (hu : 0 ≤ A * val xs + B * val ys) :
  Calls Try.prog 75 #[.agg #[.int .i64 A,.int .i64 B],va,vb] w (zIE w (A * val xs + B * val ys)) := by
 obtain ⟨W0,hW0⟩ : ∃ W0,w.alloc (.cells #[.int .i64 A,.int .i64 B] 90) = W0 := ⟨_,rfl⟩
 have b0 : Below w.heap.size w W0 := by rw [← hW0];exact (Below.refl _ _).alloc (Nat.le_refl _) _
 have sz0 : W0.heap.size = w.heap.size + 1 := by rw [← hW0];simp
 have HW1 : Hid (∀ w',Below W0.heap.size W0 w' → Calls Try.prog 85 #[va,.int .u64 A] w' (zzA w' (val xs * A))) := fun w' h => zAC ((ha.now b0).now h) (by unfold IsW wB;omega) lx
 have HW2 : Hid (∀ w',Below W0.heap.size W0 w' → Calls Try.prog 85 #[vb,.int .u64 (-B)] w' (zzA w' (val ys * (-B)))) := fun w' h => zAC ((hb.now b0).now h) (by unfold IsW wB;omega) ly
 have HS : Hid (∀ w1 r1 z1 w2 r2 z2,Below W0.heap.size W0 w1 → Sl w1.heap.size w1 r1 z1 → val z1 = val xs * A → Below w1.heap.size w1 w2 → Sl w2.heap.size w2 r2 z2 → val z2 = val ys * (-B) → Calls Try.prog 58 #[r1,r2] w2 fun e w' => ∃ zs a cap,e = .returned (.tuple #[.slice a zs.length cap,.int .i64 0]) ∧ Own w.heap.size w' (.slice a zs.length cap) zs ∧ zEA zs ∧ val zs = A * val xs + B * val ys ∧ Below w.heap.size w w' ∧ Below W0.heap.size W0 w') := fun w1 r1 z1 w2 r2 z2 b1 m1 v1 b2 m2 v2 => by
  have e1 : val z1 - val z2 = A * val xs + B * val ys := by rw [v1,v2,Int.mul_neg,Int.mul_comm,Int.mul_comm (val ys)];omega
  refine (zKE (m1.now b2) m2 (by omega)).mono fun e w' ⟨zs,a,cap,h1,h2,h3,h4,h5⟩ => ⟨zs,a,cap,h1,h2.lower ?_,h3,h4.trans e1,?_,zAA (zAA b1 b2) h5⟩
  ·have := b0.size
   have := b1.size;have := b2.size;omega
  ·exact zAA (zAA (zAA b0 b1) b2) h5
 have f : Pair W0 w.heap.size A B := by rw [← hW0];exact heap_alloc_new w _
 have cB := f.c1;have cA := f.c0;rw [← hW0] at cA cB;have EW := hid hW0;have hBn : ¬ 0 < B := by omega
 clear ha hb f hW0;go_enter Try.func75,Try.ntmps75;go_wp2_with fail;rw [EW.out];rw [EW.out] at cA cB;have b00 := Below.refl W0.heap.size W0;have HKB : Hid (∀ w',Below W0.heap.size W0 w' → w'.cell? ⟨w.heap.size,0,none⟩ = some (.int .i64 A) ∧ w'.cell? ⟨w.heap.size,1,none⟩ = some (.int .i64 B)) := fun w' h => ⟨(h.cell (p := ⟨w.heap.size,0,none⟩) (by show w.heap.size < W0.heap.size;omega)).trans cA,(h.cell (p := ⟨w.heap.size,1,none⟩) (by show w.heap.size < W0.heap.size;omega)).trans cB⟩
 have ewA : IntKind.u64.wrap A = A := by rw [IntKind.wrap_u64];omega
 have ewB : IntKind.u64.wrap (-B) = -B := by rw [IntKind.wrap_u64];omega
 have ewN : IntKind.i64.wrap (-B) = -B := by rw [IntKind.wrap_i64];omega
 clear b00 EW b0 hu;go_region_held3 (fun w' => w'.cell? ⟨w.heap.size,0,none⟩ = some (.int .i64 A) ∧ w'.cell? ⟨w.heap.size,1,none⟩ = some (.int .i64 B))
  (first
   | ((try dsimp only);refine ⟨?_,?_⟩ <;> with_reducible assumption)
   | (refine HKB.out _ ?_;repeat (first | with_reducible exact HP2.out | with_reducible exact HP1.out | with_reducible exact Below.refl _ _ | with_reducible apply Below.drew)))
  (first
   | (go_at_call_of 85 va;refine (HW1.out _ ?_).mono ?_;(repeat (first | exact Below.refl _ _ | apply Below.drew));rintro e w1 ⟨z1,r1,rfl,m1,c1,v1,b1⟩;have HP1 := hid (zAA (w0 := W0) (by repeat (first | exact Below.refl _ _ | apply Below.drew)) b1);have S1 := hid m1.sl;obtain ⟨k0,k1⟩ := HKB.out w1 HP1.out;clear m1 b1 c1)
   | (go_at_call_of 85 vb;refine (HW2.out _ ?_).mono ?_;(repeat (first | exact HP1.out | apply Below.drew));rintro e w2 ⟨z2,r2,rfl,m2,c2,v2,b2⟩;have HB12 : Hid (Below w1.heap.size w1 w2) := zAA (w0 := w1) (by repeat (first | exact Below.refl _ _ | apply Below.drew)) b2;have HP2 := hid (zAA HP1.out HB12.out);have S2 := hid m2.sl;obtain ⟨l0,l1⟩ := HKB.out w2 HP2.out;clear m2 b2 c2)
   | (go_at_call 58;refine (HS.out w1 r1 z1 w2 r2 z2 HP1.out S1.out v1 HB12.out S2.out v2).mono ?_;rintro e w3 ⟨zs,az,cz,rfl,q1,q2,q3,q4,q5⟩;have HP3 := hid q5;obtain ⟨n0,n1⟩ := HKB.out w3 q5;clear q5))
 all_goals (try go_wp2)
 all_goals go_ret
 all_goals exact ⟨zs,_,rfl,q1,q2,q3,q4⟩
theorem of_swap {w : World} {va vb : Value} {xs ys : List Int} {A B : Int} (ha : Sl w.heap.size w va xs) (hb : Sl w.heap.size w vb ys) (lx : xs.length < 35184372088832) (ly : ys.length < 35184372088832) (hA0 : -1152921504606846976 ≤ A) (hA1 : A ≤ 0) (hB0 : 0 < B) (hB1 : B ≤ 1152921504606846976) (hu : 0 ≤ A * val xs + B * val ys) :
  Calls Try.prog 75 #[.agg #[.int .i64 A,.int .i64 B],va,vb] w (zIE w (A * val xs + B * val ys)) := by
 obtain ⟨W0,hW0⟩ : ∃ W0,(w.alloc (.cells #[.int .i64 B,.int .i64 A] 90)).drew = W0 := ⟨_,rfl⟩
 have pf : Pair (w.alloc (.cells #[.int .i64 A,.int .i64 B] 90)) w.heap.size A B := heap_alloc_new w _;have b0 : Below w.heap.size w W0 := by rw [← hW0];exact ((Below.refl _ _).alloc (Nat.le_refl _) _).drew
 have sz0 : W0.heap.size = w.heap.size + 1 := by rw [← hW0];simp [World.drew]
 have HW1 : Hid (∀ w',Below W0.heap.size W0 w' → Calls Try.prog 85 #[vb,.int .u64 B] w' (zzA w' (val ys * B))) := fun w' h => zAC ((hb.now b0).now h) (by unfold IsW wB;omega) ly
 have HW2 : Hid (∀ w',Below W0.heap.size W0 w' → Calls Try.prog 85 #[va,.int .u64 (-A)] w' (zzA w' (val xs * (-A)))) := fun w' h => zAC ((ha.now b0).now h) (by unfold IsW wB;omega) lx
 have HS : Hid (∀ w1 r1 z1 w2 r2 z2,Below W0.heap.size W0 w1 → Sl w1.heap.size w1 r1 z1 → val z1 = val ys * B → Below w1.heap.size w1 w2 → Sl w2.heap.size w2 r2 z2 → val z2 = val xs * (-A) → Calls Try.prog 58 #[r1,r2] w2 fun e w' => ∃ zs a cap,e = .returned (.tuple #[.slice a zs.length cap,.int .i64 0]) ∧ Own w.heap.size w' (.slice a zs.length cap) zs ∧ zEA zs ∧ val zs = A * val xs + B * val ys ∧ Below w.heap.size w w' ∧ Below W0.heap.size W0 w') := fun w1 r1 z1 w2 r2 z2 b1 m1 v1 b2 m2 v2 => by
  have e1 : val z1 - val z2 = A * val xs + B * val ys := by rw [v1,v2,Int.mul_neg,Int.mul_comm (val ys),Int.mul_comm (val xs)];omega
  refine (zKE (m1.now b2) m2 (by omega)).mono fun e w' ⟨zs,a,cap,h1,h2,h3,h4,h5⟩ => ⟨zs,a,cap,h1,h2.lower ?_,h3,h4.trans e1,?_,zAA (zAA b1 b2) h5⟩
  ·have := b0.size
   have := b1.size;have := b2.size;omega
  ·exact zAA (zAA (zAA b0 b1) b2) h5
 have f : Pair W0 w.heap.size B A := by rw [← hW0];exact heap_alloc_new w _
 have cA := f.c0;have cB := f.c1;have oA := pf.c0;have oB := pf.c1;have g0 := pf.fz 0;have g1 := pf.fz 1;have EW := hid hW0;clear ha hb f hW0 pf;go_enter Try.func75,Try.ntmps75;go_wp2_with fail;go_region;go_wp2_with fail;rw [EW.out];clear oA oB g0 g1;have HKB : Hid (∀ w',Below W0.heap.size W0 w' → w'.cell? ⟨w.heap.size,0,none⟩ = some (.int .i64 B) ∧ w'.cell? ⟨w.heap.size,1,none⟩ = some (.int .i64 A)) := fun w' h => ⟨(h.cell (p := ⟨w.heap.size,0,none⟩) (by show w.heap.size < W0.heap.size;omega)).trans cA,(h.cell (p := ⟨w.heap.size,1,none⟩) (by show w.heap.size < W0.heap.size;omega)).trans cB⟩
 have ewA : IntKind.u64.wrap B = B := by rw [IntKind.wrap_u64];omega
 have ewB : IntKind.u64.wrap (-A) = -A := by rw [IntKind.wrap_u64];omega
 have ewN : IntKind.i64.wrap (-A) = -A := by rw [IntKind.wrap_i64];omega
 clear EW b0 hu;go_region_held3 (fun w' => w'.cell? ⟨w.heap.size,0,none⟩ = some (.int .i64 B) ∧ w'.cell? ⟨w.heap.size,1,none⟩ = some (.int .i64 A))
  (first
   | ((try dsimp only);refine ⟨?_,?_⟩ <;> with_reducible assumption)
   | (refine HKB.out _ ?_;repeat (first | with_reducible exact HP2.out | with_reducible exact HP1.out | with_reducible exact Below.refl _ _ | with_reducible apply Below.drew)))
  (first
   | (go_at_call_of 85 vb;refine (HW1.out _ ?_).mono ?_;(repeat (first | exact Below.refl _ _ | apply Below.drew));rintro e w1 ⟨z1,r1,rfl,m1,c1,v1,b1⟩;have HP1 := hid (zAA (w0 := W0) (by repeat (first | exact Below.refl _ _ | apply Below.drew)) b1);have S1 := hid m1.sl;obtain ⟨k0,k1⟩ := HKB.out w1 HP1.out;clear m1 b1 c1)
   | (go_at_call_of 85 va;refine (HW2.out _ ?_).mono ?_;(repeat (first | exact HP1.out | apply Below.drew));rintro e w2 ⟨z2,r2,rfl,m2,c2,v2,b2⟩;have HB12 : Hid (Below w1.heap.size w1 w2) := zAA (w0 := w1) (by repeat (first | exact Below.refl _ _ | apply Below.drew)) b2;have HP2 := hid (zAA HP1.out HB12.out);have S2 := hid m2.sl;obtain ⟨l0,l1⟩ := HKB.out w2 HP2.out;clear m2 b2 c2)
   | (go_at_call 58;refine (HS.out w1 r1 z1 w2 r2 z2 HP1.out S1.out v1 HB12.out S2.out v2).mono ?_;rintro e w3 ⟨zs,az,cz,rfl,q1,q2,q3,q4,q5⟩;have HP3 := hid q5;obtain ⟨n0,n1⟩ := HKB.out w3 q5;clear q5))
 all_goals (try go_wp2)
 all_goals go_ret
 all_goals exact ⟨zs,_,rfl,q1,q2,q3,q4⟩
theorem zKF {w : World} {va vb : Value} {xs ys : List Int} {A B : Int} (ha : Sl w.heap.size w va xs) (hb : Sl w.heap.size w vb ys) (lx : xs.length < 35184372088832) (ly : ys.length < 35184372088832) (hx : 0 < val xs) (hA0 : -1152921504606846976 ≤ A) (hA1 : A ≤ 1152921504606846976) (hB0 : -1152921504606846976 ≤ B) (hB1 : B ≤ 1152921504606846976) (hs : (0 ≤ A ∧ B ≤ 0) ∨ (A ≤ 0 ∧ 0 ≤ B)) (hu : 0 ≤ A * val xs + B * val ys) :
  Calls Try.prog 75 #[.agg #[.int .i64 A,.int .i64 B],va,vb] w (zIE w (A * val xs + B * val ys)) := by
 by_cases h : 0 < B
 ·exact of_swap ha hb lx ly hA0 (by omega) h hB1 hu
 ·refine of_plain ha hb lx ly ?_ hA1 hB0 (by omega) hu
  rcases hs with hs | hs
  ·exact hs.1
  ·have hB : B = 0 := by omega
   rw [hB,Int.zero_mul,Int.add_zero] at hu;refine Int.not_lt.1 fun hn => ?_
   have := Int.mul_neg_of_neg_of_pos hn hx;omega
end Go.Proofs.Ytlhjogiefbjklaa
