/-
 QOfToNearer: Of, Nearer, joined.
-/
import Derived.Test.YtppddlbkdoebmaaQSharesToGcdParts
import Derived.Deep.RegionHeld3

set_option maxRecDepth 100000
set_option maxHeartbeats 6400000
set_option linter.unusedVariables false
set_option linter.unusedSimpArgs false
namespace Go.Proofs.Ytppddlbkdoebmaa
open Go.RowKit
theorem zPF {w : World} {v u : Value} {xs ys : List Int} (h : Sl w.heap.size w v xs) (h' : Sl w.heap.size w u ys) (hge : val ys ≤ val xs) :
  Calls Try.prog 58 #[v,u] w fun e w' => ∃ zs a cap,e = .returned (.tuple #[.slice a zs.length cap,.int .i64 0]) ∧ Own w.heap.size w' (.slice a zs.length cap) zs ∧ zFA zs ∧ val zs = val xs - val ys ∧ Below w.heap.size w w' :=
 (zEG h h' hge).mono fun e w' ht => by
  obtain ⟨zs,cap,r,h1,h2,h3,h4,h5,h6,h7,h8,h9⟩ := ht;subst h5;exact ⟨zs,_,_,h1,⟨h2.1,.inr ⟨w.heap.size,r,Nat.le_refl _,h6,rfl,h7⟩⟩,h2,h3,h8⟩
def zMF (w : World) (u : Int) (e : Ending) (w' : World) : Prop := ∃ zs r,e = .returned r ∧ Own w.heap.size w' r zs ∧ zFA zs ∧ val zs = u ∧ Below w.heap.size w w'
theorem of_plain {w : World} {va vb : Value} {xs ys : List Int} {A B : Int} (ha : Sl w.heap.size w va xs) (hb : Sl w.heap.size w vb ys) (lx : xs.length < 35184372088832) (ly : ys.length < 35184372088832) (hA0 : 0 ≤ A) (hA1 : A ≤ 1152921504606846976) (hB0 : -1152921504606846976 ≤ B) (hB1 : B ≤ 0) (hu : 0 ≤ A * val xs + B * val ys) :
  Calls Try.prog 75 #[.agg #[.int .i64 A,.int .i64 B],va,vb] w (zMF w (A * val xs + B * val ys)) := by
 obtain ⟨W0,hW0⟩ : ∃ W0,w.alloc (.cells #[.int .i64 A,.int .i64 B] 90) = W0 := ⟨_,rfl⟩
 have b0 : Below w.heap.size w W0 := by rw [← hW0];exact (Below.refl _ _).alloc (Nat.le_refl _) _
 have sz0 : W0.heap.size = w.heap.size + 1 := by rw [← hW0];simp
 have HW1 : Hid (∀ w',Below W0.heap.size W0 w' → Calls Try.prog 85 #[va,.int .u64 A] w' (zMB w' (val xs * A))) := fun w' h => zfC ((ha.now b0).now h) (by unfold IsW wB;omega) lx
 have HW2 : Hid (∀ w',Below W0.heap.size W0 w' → Calls Try.prog 85 #[vb,.int .u64 (-B)] w' (zMB w' (val ys * (-B)))) := fun w' h => zfC ((hb.now b0).now h) (by unfold IsW wB;omega) ly
 have HS : Hid (∀ w1 r1 z1 w2 r2 z2,Below W0.heap.size W0 w1 → Sl w1.heap.size w1 r1 z1 → val z1 = val xs * A → Below w1.heap.size w1 w2 → Sl w2.heap.size w2 r2 z2 → val z2 = val ys * (-B) → Calls Try.prog 58 #[r1,r2] w2 fun e w' => ∃ zs a cap,e = .returned (.tuple #[.slice a zs.length cap,.int .i64 0]) ∧ Own w.heap.size w' (.slice a zs.length cap) zs ∧ zFA zs ∧ val zs = A * val xs + B * val ys ∧ Below w.heap.size w w' ∧ Below W0.heap.size W0 w') := fun w1 r1 z1 w2 r2 z2 b1 m1 v1 b2 m2 v2 => by
  have e1 : val z1 - val z2 = A * val xs + B * val ys := by rw [v1,v2,Int.mul_neg,Int.mul_comm,Int.mul_comm (val ys)];omega
  refine (zPF (m1.now b2) m2 (by omega)).mono fun e w' ⟨zs,a,cap,h1,h2,h3,h4,h5⟩ => ⟨zs,a,cap,h1,h2.lower ?_,h3,h4.trans e1,?_,zAA (zAA b1 b2) h5⟩
  ·have := b0.size
   have := b1.size;have := b2.size;omega
  ·exact zAA (zAA (zAA b0 b1) b2) h5
 have f : Pair W0 w.heap.size A B := by rw [← hW0];exact heap_alloc_new w _
 have cB := f.c1;have cA := f.c0;rw [← hW0] at cA cB;have EW := hid hW0;have hBn : ¬ 0 < B := by omega
 clear ha hb f hW0;go_enter Try.func75,Try.ntmps75;go_wp2_with fail;rw [EW.out];rw [EW.out] at cA cB;have b00 := Below.refl W0.heap.size W0;have HKB : Hid (∀ w',Below W0.heap.size W0 w' → w'.cell? ⟨w.heap.size,0,none⟩ = some (.int .i64 A) ∧ w'.cell? ⟨w.heap.size,1,none⟩ = some (.int .i64 B)) := fun w' h => ⟨(h.cell (p := ⟨w.heap.size,0,none⟩) (by show w.heap.size < W0.heap.size;omega)).trans cA,(h.cell (p := ⟨w.heap.size,1,none⟩) (by show w.heap.size < W0.heap.size;omega)).trans cB⟩
 have ewA : IntKind.u64.wrap A = A := by rw [IntKind.wrap_u64];omega
 have ewB : IntKind.u64.wrap (-B) = -B := by rw [IntKind.wrap_u64];omega
 have ewN : IntKind.i64.wrap (-B) = -B := by rw [IntKind.wrap_i64];omega
 clear b00 EW b0 hu;go_region_held3 (fun w' => w'.cell? ⟨w.heap.size,0,none⟩ = some (.int .i64 A) ∧ w'.cell? ⟨w.heap.size,1,none⟩ = some (.int .i64 B))
  (first
   | ((try dsimp only);refine ⟨?_,?_⟩ <;> with_reducible assumption)
   | (refine HKB.out _ ?_;repeat (first | with_reducible exact HP2.out | with_reducible exact HP1.out | with_reducible exact Below.refl _ _ | with_reducible apply Below.drew)))
  (first
   | (go_at_call_of 85 va;refine (HW1.out _ ?_).mono ?_;(repeat (first | exact Below.refl _ _ | apply Below.drew));rintro e w1 ⟨z1,r1,rfl,m1,c1,v1,b1⟩;have HP1 := hid (zAA (w0 := W0) (by repeat (first | exact Below.refl _ _ | apply Below.drew)) b1);have S1 := hid m1.sl;obtain ⟨k0,k1⟩ := HKB.out w1 HP1.out;clear m1 b1 c1)
   | (go_at_call_of 85 vb;refine (HW2.out _ ?_).mono ?_;(repeat (first | exact HP1.out | apply Below.drew));rintro e w2 ⟨z2,r2,rfl,m2,c2,v2,b2⟩;have HB12 : Hid (Below w1.heap.size w1 w2) := zAA (w0 := w1) (by repeat (first | exact Below.refl _ _ | apply Below.drew)) b2;have HP2 := hid (zAA HP1.out HB12.out);have S2 := hid m2.sl;obtain ⟨l0,l1⟩ := HKB.out w2 HP2.out;clear m2 b2 c2)
   | (go_at_call 58;refine (HS.out w1 r1 z1 w2 r2 z2 HP1.out S1.out v1 HB12.out S2.out v2).mono ?_;rintro e w3 ⟨zs,az,cz,rfl,q1,q2,q3,q4,q5⟩;have HP3 := hid q5;obtain ⟨n0,n1⟩ := HKB.out w3 q5;clear q5))
 all_goals (try go_wp2)
 all_goals go_ret
 all_goals exact ⟨zs,_,rfl,q1,q2,q3,q4⟩
theorem of_swap {w : World} {va vb : Value} {xs ys : List Int} {A B : Int} (ha : Sl w.heap.size w va xs) (hb : Sl w.heap.size w vb ys) (lx : xs.length < 35184372088832) (ly : ys.length < 35184372088832) (hA0 : -1152921504606846976 ≤ A) (hA1 : A ≤ 0) (hB0 : 0 < B) (hB1 : B ≤ 1152921504606846976) (hu : 0 ≤ A * val xs + B * val ys) :
  Calls Try.prog 75 #[.agg #[.int .i64 A,.int .i64 B],va,vb] w (zMF w (A * val xs + B * val ys)) := by
 obtain ⟨W0,hW0⟩ : ∃ W0,(w.alloc (.cells #[.int .i64 B,.int .i64 A] 90)).drew = W0 := ⟨_,rfl⟩
 have pf : Pair (w.alloc (.cells #[.int .i64 A,.int .i64 B] 90)) w.heap.size A B := heap_alloc_new w _;have b0 : Below w.heap.size w W0 := by rw [← hW0];exact ((Below.refl _ _).alloc (Nat.le_refl _) _).drew
 have sz0 : W0.heap.size = w.heap.size + 1 := by rw [← hW0];simp [World.drew]
 have HW1 : Hid (∀ w',Below W0.heap.size W0 w' → Calls Try.prog 85 #[vb,.int .u64 B] w' (zMB w' (val ys * B))) := fun w' h => zfC ((hb.now b0).now h) (by unfold IsW wB;omega) ly
 have HW2 : Hid (∀ w',Below W0.heap.size W0 w' → Calls Try.prog 85 #[va,.int .u64 (-A)] w' (zMB w' (val xs * (-A)))) := fun w' h => zfC ((ha.now b0).now h) (by unfold IsW wB;omega) lx
 have HS : Hid (∀ w1 r1 z1 w2 r2 z2,Below W0.heap.size W0 w1 → Sl w1.heap.size w1 r1 z1 → val z1 = val ys * B → Below w1.heap.size w1 w2 → Sl w2.heap.size w2 r2 z2 → val z2 = val xs * (-A) → Calls Try.prog 58 #[r1,r2] w2 fun e w' => ∃ zs a cap,e = .returned (.tuple #[.slice a zs.length cap,.int .i64 0]) ∧ Own w.heap.size w' (.slice a zs.length cap) zs ∧ zFA zs ∧ val zs = A * val xs + B * val ys ∧ Below w.heap.size w w' ∧ Below W0.heap.size W0 w') := fun w1 r1 z1 w2 r2 z2 b1 m1 v1 b2 m2 v2 => by
  have e1 : val z1 - val z2 = A * val xs + B * val ys := by rw [v1,v2,Int.mul_neg,Int.mul_comm (val ys),Int.mul_comm (val xs)];omega
  refine (zPF (m1.now b2) m2 (by omega)).mono fun e w' ⟨zs,a,cap,h1,h2,h3,h4,h5⟩ => ⟨zs,a,cap,h1,h2.lower ?_,h3,h4.trans e1,?_,zAA (zAA b1 b2) h5⟩
  ·have := b0.size
   have := b1.size;have := b2.size;omega
  ·exact zAA (zAA (zAA b0 b1) b2) h5
 have f : Pair W0 w.heap.size B A := by rw [← hW0];exact heap_alloc_new w _
 have cA := f.c0;have cB := f.c1;have oA := pf.c0;have oB := pf.c1;have g0 := pf.fz 0;have g1 := pf.fz 1;have EW := hid hW0;clear ha hb f hW0 pf;go_enter Try.func75,Try.ntmps75;go_wp2_with fail;go_region;go_wp2_with fail;rw [EW.out];clear oA oB g0 g1;have HKB : Hid (∀ w',Below W0.heap.size W0 w' → w'.cell? ⟨w.heap.size,0,none⟩ = some (.int .i64 B) ∧ w'.cell? ⟨w.heap.size,1,none⟩ = some (.int .i64 A)) := fun w' h => ⟨(h.cell (p := ⟨w.heap.size,0,none⟩) (by show w.heap.size < W0.heap.size;omega)).trans cA,(h.cell (p := ⟨w.heap.size,1,none⟩) (by show w.heap.size < W0.heap.size;omega)).trans cB⟩
 have ewA : IntKind.u64.wrap B = B := by rw [IntKind.wrap_u64];omega
 have ewB : IntKind.u64.wrap (-A) = -A := by rw [IntKind.wrap_u64];omega
 have ewN : IntKind.i64.wrap (-A) = -A := by rw [IntKind.wrap_i64];omega
 clear EW b0 hu;go_region_held3 (fun w' => w'.cell? ⟨w.heap.size,0,none⟩ = some (.int .i64 B) ∧ w'.cell? ⟨w.heap.size,1,none⟩ = some (.int .i64 A))
  (first
   | ((try dsimp only);refine ⟨?_,?_⟩ <;> with_reducible assumption)
   | (refine HKB.out _ ?_;repeat (first | with_reducible exact HP2.out | with_reducible exact HP1.out | with_reducible exact Below.refl _ _ | with_reducible apply Below.drew)))
  (first
   | (go_at_call_of 85 vb;refine (HW1.out _ ?_).mono ?_;(repeat (first | exact Below.refl _ _ | apply Below.drew));rintro e w1 ⟨z1,r1,rfl,m1,c1,v1,b1⟩;have HP1 := hid (zAA (w0 := W0) (by repeat (first | exact Below.refl _ _ | apply Below.drew)) b1);have S1 := hid m1.sl;obtain ⟨k0,k1⟩ := HKB.out w1 HP1.out;clear m1 b1 c1)
   | (go_at_call_of 85 va;refine (HW2.out _ ?_).mono ?_;(repeat (first | exact HP1.out | apply Below.drew));rintro e w2 ⟨z2,r2,rfl,m2,c2,v2,b2⟩;have HB12 : Hid (Below w1.heap.size w1 w2) := zAA (w0 := w1) (by repeat (first | exact Below.refl _ _ | apply Below.drew)) b2;have HP2 := hid (zAA HP1.out HB12.out);have S2 := hid m2.sl;obtain ⟨l0,l1⟩ := HKB.out w2 HP2.out;clear m2 b2 c2)
   | (go_at_call 58;refine (HS.out w1 r1 z1 w2 r2 z2 HP1.out S1.out v1 HB12.out S2.out v2).mono ?_;rintro e w3 ⟨zs,az,cz,rfl,q1,q2,q3,q4,q5⟩;have HP3 := hid q5;obtain ⟨n0,n1⟩ := HKB.out w3 q5;clear q5))
 all_goals (try go_wp2)
 all_goals go_ret
 all_goals exact ⟨zs,_,rfl,q1,q2,q3,q4⟩
theorem zfG {w : World} {va vb : Value} {xs ys : List Int} {A B : Int} (ha : Sl w.heap.size w va xs) (hb : Sl w.heap.size w vb ys) (lx : xs.length < 35184372088832) (ly : ys.length < 35184372088832) (hx : 0 < val xs) (hA0 : -1152921504606846976 ≤ A) (hA1 : A ≤ 1152921504606846976) (hB0 : -1152921504606846976 ≤ B) (hB1 : B ≤ 1152921504606846976) (hs : (0 ≤ A ∧ B ≤ 0) ∨ (A ≤ 0 ∧ 0 ≤ B)) (hu : 0 ≤ A * val xs + B * val ys) :
  Calls Try.prog 75 #[.agg #[.int .i64 A,.int .i64 B],va,vb] w (zMF w (A * val xs + B * val ys)) := by
 by_cases h : 0 < B
 ·exact of_swap ha hb lx ly hA0 (by omega) h hB1 hu
 ·refine of_plain ha hb lx ly ?_ hA1 hB0 (by omega) hu
  rcases hs with hs | hs
  ·exact hs.1
  ·have hB : B = 0 := by omega
   rw [hB,Int.zero_mul,Int.add_zero] at hu;refine Int.not_lt.1 fun hn => ?_
   have := Int.mul_neg_of_neg_of_pos hn hx;omega
def Neared (B0 : Nat) (w : World) (X Y : Int) (e : Ending) (w' : World) : Prop :=
 ∃ us vs ru rv,e = .returned (.tuple #[ru,rv]) ∧ Own B0 w' ru us ∧ Own B0 w' rv vs ∧ zFA us ∧ zFA vs ∧ ig (val us) (val vs) = ig X Y ∧ val vs ≤ val us ∧ val vs < Y ∧ val us ≤ Y ∧ Below w.heap.size w w'
theorem bitLen_bounds {v : Nat} (h : v ≠ 0) : v < 2 ^ bitLen v ∧ 2 ^ (bitLen v - 1) ≤ v := by
 have e : bitLen v = Nat.log2 v + 1 := by unfold bitLen;rw [if_neg h]
 rw [e];exact ⟨Nat.lt_log2_self,by rw [Nat.add_sub_cancel];exact Nat.log2_self_le h⟩
theorem zOE {B0 : Nat} {w : World} {va vb : Value} {xs ys : List Int} (ha : Own B0 w va xs) (hb : Own B0 w vb ys) (cx : zFA xs) (cy : zFA ys) (hle : val ys ≤ val xs) (hy2 : 2 ≤ ys.length) (lx : xs.length ≤ 1099511627776) (ly : ys.length ≤ 1099511627776) (hB : B0 ≤ w.heap.size) :
  Calls Try.prog 56 #[va,vb] w (Neared B0 w (val xs) (val ys)) := by
 have hvx := zNA cx.1;have hvy := zNA cy.1;have hyb : 18446744073709551616 ≤ val ys := by
  obtain ⟨N,hN⟩ : ∃ N,ys.length = N + 1 + 1 := ⟨ys.length - 2,by omega⟩
  have h1 := zUD cy hN;have h2 : pw (N + 1) = wB * pw N := rfl;have h3 := zhA N;have h4 : wB = 18446744073709551616 := rfl;rw [h2,h4] at h1;omega
 have L1 := ztA ha.sl;have hb0 := bitLen_bounds (v := vn xs) (by omega);obtain ⟨m,hm⟩ : ∃ m,bitLen (vn xs) = m := ⟨_,rfl⟩
 rw [hm] at L1 hb0;have hm64 : 64 < m := by
  refine Nat.lt_of_not_le fun h => ?_
  have : 2 ^ m ≤ 2 ^ 64 := Nat.pow_le_pow_right (by omega) h;omega
 have hml : m ≤ 64 * xs.length := by
  rw [← hm];unfold bitLen;rw [if_neg (by omega)];have := (Nat.log2_lt (n := vn xs) (k := 64 * xs.length) (by omega)).2 (zkE cx.1);omega
 obtain ⟨p,hp⟩ : ∃ p,m = p + 60 := ⟨m - 60,by omega⟩
 have hPp := Nat.two_pow_pos p;obtain ⟨P,hP⟩ : ∃ P,2 ^ p = P := ⟨_,rfl⟩
 have hxP : vn xs < P * 1152921504606846976 := by
  have := hb0.1;rw [hp,Nat.pow_add,hP] at this;exact this
 have hdx : vn xs / P < 1152921504606846976 := by rw [Nat.div_lt_iff_lt_mul (by omega),Nat.mul_comm];exact hxP
 have hdy : vn ys / P < 1152921504606846976 := by rw [Nat.div_lt_iff_lt_mul (by omega),Nat.mul_comm];omega
 have HD1 := hid (ztF (p := p) ha.sl (by omega) (by rw [hP];omega));have HD2 : Hid (∀ w',Below w.heap.size w w' → Calls Try.prog 74 #[vb,.int .i64 (p : Int)] w' fun e w'' => e = .returned (.int .i64 ((vn ys / P : Nat) : Int)) ∧ Below w'.heap.size w' w'') := fun w' h => by
  have := ztF (p := p) (hb.sl.now h) (by omega) (by rw [hP];omega);rw [hP] at this;exact this
 rw [hP] at HD1;have ex : val xs = ((vn xs / P : Nat) : Int) * (P : Int) + ((vn xs % P : Nat) : Int) := by
  rw [hvx,← Int.natCast_mul];have := Nat.div_add_mod (vn xs) P;rw [Nat.mul_comm] at this;omega
 have ey : val ys = ((vn ys / P : Nat) : Int) * (P : Int) + ((vn ys % P : Nat) : Int) := by
  rw [hvy,← Int.natCast_mul];have := Nat.div_add_mod (vn ys) P;rw [Nat.mul_comm] at this;omega
 have hax := Nat.mod_lt (vn xs) (show 0 < P by omega);have hay := Nat.mod_lt (vn ys) (show 0 < P by omega);obtain ⟨xh,hxh⟩ : ∃ xh : Int,((vn xs / P : Nat) : Int) = xh := ⟨_,rfl⟩
 obtain ⟨yh,hyh⟩ : ∃ yh : Int,((vn ys / P : Nat) : Int) = yh := ⟨_,rfl⟩
 obtain ⟨al,hal⟩ : ∃ al : Int,((vn xs % P : Nat) : Int) = al := ⟨_,rfl⟩
 obtain ⟨be,hbe⟩ : ∃ be : Int,((vn ys % P : Nat) : Int) = be := ⟨_,rfl⟩
 have xh0 : 0 ≤ xh := by rw [← hxh];exact Int.natCast_nonneg _
 have xh1 : xh < 1152921504606846976 := by omega
 have yh0 : 0 ≤ yh := by rw [← hyh];exact Int.natCast_nonneg _
 have yh1 : yh < 1152921504606846976 := by omega
 have HEU : Hid (∀ A B C D,zCE xh yh A B C D → 0 ≤ A * val xs + B * val ys ∧ 0 ≤ C * val xs + D * val ys ∧ ig (A * val xs + B * val ys) (C * val xs + D * val ys) = ig (val xs) (val ys) ∧ ((A = 1 ∧ B = 0 ∧ C = 0 ∧ D = 1) ∨ (C ≠ 0 ∧ C * val xs + D * val ys < A * val xs + B * val ys ∧ C * val xs + D * val ys < val ys ∧ A * val xs + B * val ys ≤ val ys))) := fun A B C D h => by
  have := h (P : Int) al be (by omega) (by omega) (by omega) (by omega) (by omega);rw [hxh,hal] at ex;rw [hyh,hbe] at ey;rw [ex,ey];exact this
 rw [hxh] at HD1;rw [hyh] at HD2;have HX := hid ha;have HY := hid hb;have e1 : (m : Int) - 60 = (p : Int) := by omega
 have HVP : Hid (0 < val xs) := by unfold Hid;omega
 clear ha hb hvx hvy hb0 hm hP hxP hdx hdy ex ey hax hay hxh hyh hal hbe hp;go_enter Try.func56,Try.ntmps56;go_wp2_with fail;refine L1.mono ?_;rintro e w0 ⟨rfl,rfl⟩;clear L1;go_wp2_with fail;refine HD1.out.mono ?_;rintro e w1 ⟨rfl,b1⟩;have D2 := hid (HD2.out w1 b1);have K1 := hid b1;clear HD1 HD2 b1;go_wp2_with fail;refine D2.out.mono ?_;rintro e w2 ⟨rfl,b2⟩;have K2 := hid (zAA K1.out b2);have HSH := hid (shares_any (w := w2) xh0 xh1 yh0 yh1);clear D2 b2 K1;go_wp2_with fail;refine HSH.out.mono ?_;rintro e w3 ⟨A,B,C,D,rfl,⟨x,y,hleh⟩,heuc,b3⟩;obtain ⟨⟨bA0,bA1⟩,⟨bB0,bB1⟩,⟨bC0,bC1⟩,⟨bD0,bD1⟩,-,-⟩ := hleh.bounds;obtain ⟨-,-,-,-,-,-,sg⟩ := hleh;obtain ⟨u0,v0,hig,alt⟩ := HEU.out A B C D heuc;have K3 := hid (zAA K2.out b3);clear HSH b3 K2 HEU heuc;obtain ⟨W5,hW5⟩ : ∃ W5,(w3.alloc (.cells #[.int .i64 A,.int .i64 B] 90)).alloc (.cells #[.int .i64 C,.int .i64 D] 90) = W5 := ⟨_,rfl⟩
 have b5 : Below w3.heap.size w3 W5 := by rw [← hW5];exact ((Below.refl _ _).alloc (Nat.le_refl _) _).alloc (by simp) _
 have sz5 : W5.heap.size = w3.heap.size + 1 + 1 := by rw [← hW5];simp
 have pA : Pair W5 w3.heap.size A B := by
  rw [← hW5];unfold Pair;rw [Below.heap_alloc _ _ _ (by simp)];exact heap_alloc_new w3 _
 have pC : Pair W5 (w3.heap.size + 1) C D := by
  rw [← hW5];unfold Pair;have := heap_alloc_new (w3.alloc (.cells #[.int .i64 A,.int .i64 B] 90)) (.cells #[.int .i64 C,.int .i64 D] 90)
  simpa using this
 have K5 := hid (zAA K3.out b5);have cC0 := pC.c0;have HX5 := hid ((HX.out.stay K5.out));have HY5 := hid ((HY.out.stay K5.out));have HKB : Hid (∀ w',Below W5.heap.size W5 w' → w'.cell? ⟨w3.heap.size,0,none⟩ = some (.int .i64 A) ∧ w'.cell? ⟨w3.heap.size,1,none⟩ = some (.int .i64 B) ∧ w'.cell? ⟨w3.heap.size + 1,0,none⟩ = some (.int .i64 C) ∧ w'.cell? ⟨w3.heap.size + 1,1,none⟩ = some (.int .i64 D)) := fun w' h =>
  ⟨(h.cell (p := ⟨w3.heap.size,0,none⟩) (by show w3.heap.size < W5.heap.size;omega)).trans pA.c0,(h.cell (p := ⟨w3.heap.size,1,none⟩) (by show w3.heap.size < W5.heap.size;omega)).trans pA.c1,(h.cell (p := ⟨w3.heap.size + 1,0,none⟩) (by show w3.heap.size + 1 < W5.heap.size;omega)).trans pC.c0,(h.cell (p := ⟨w3.heap.size + 1,1,none⟩) (by show w3.heap.size + 1 < W5.heap.size;omega)).trans pC.c1⟩
 obtain ⟨r0,r1,r2,r3⟩ := HKB.out W5 (Below.refl _ _);have EW := hid hW5;have cC0' := cC0;rw [← hW5] at cC0';have HSZ : Hid (w0.heap.size ≤ W5.heap.size) := K5.out.size;clear b5 pA pC cC0 K3 hW5
 by_cases hC : C = 0
 ·subst hC
  have z : ((0 : Int) == 0) = true := rfl;have HDM := hid (zTC HX5.out.sl HY5.out.sl (by rw [cy.2];omega) lx ly);clear alt;go_wp2_with fail;rw [EW.out];refine HDM.out.mono ?_;rintro e w6 ⟨qs,rs,q,r,rfl,hoq,hor,hcq,hcr,hv,hlt,hlq,hlr,_,b6⟩;have K6 := hid (zAA K5.out b6);have HR := hid hor;have HY6 := hid (HY5.out.stay b6);have HV : Hid (val xs = val ys * val qs + val rs ∧ val rs < val ys) := ⟨hv,hlt⟩
  clear HDM hoq hor hv hlt b6;go_wp2;go_ret2;have hr0 := val_nonneg hcr.1;have hst := zjD (u := val xs) (v := val ys) (q := val qs) (r := val rs) (Int.le_of_lt HVP.out) (by omega) hr0 HV.out.2 (by rw [HV.out.1,Int.mul_comm];omega);exact ⟨ys,rs,vb,r,rfl,HY6.out,HR.out.lower (by have := HSZ.out;omega),cy,hcr,hst,by have := HV.out.2;omega,HV.out.2,Int.le_refl _,K6.out⟩
 ·have z : (C == 0) = false := by simp [hC]
  have halt : C * val xs + D * val ys < A * val xs + B * val ys ∧ C * val xs + D * val ys < val ys ∧ A * val xs + B * val ys ≤ val ys := by
   rcases alt with ⟨_,_,h,_⟩ | ⟨_,h⟩
   ·exact absurd h hC
   ·exact h
  have HF : Hid (C * val xs + D * val ys < A * val xs + B * val ys ∧ C * val xs + D * val ys < val ys ∧ A * val xs + B * val ys ≤ val ys ∧ ig (A * val xs + B * val ys) (C * val xs + D * val ys) = ig (val xs) (val ys)) := ⟨halt.1,halt.2.1,halt.2.2,hig⟩
  have HO1 : Hid (∀ w',Below W5.heap.size W5 w' → Calls Try.prog 75 #[.agg #[.int .i64 A,.int .i64 B],va,vb] w' (zMF w' (A * val xs + B * val ys))) := fun w' h => zfG (HX5.out.sl.now h) (HY5.out.sl.now h) (by omega) (by omega) HVP.out bA0 bA1 bB0 bB1 (by rcases sg with s | s <;> omega) u0
  have HO2 : Hid (∀ w',Below W5.heap.size W5 w' → Calls Try.prog 75 #[.agg #[.int .i64 C,.int .i64 D],va,vb] w' (zMF w' (C * val xs + D * val ys))) := fun w' h => zfG (HX5.out.sl.now h) (HY5.out.sl.now h) (by omega) (by omega) HVP.out bC0 bC1 bD0 bD1 (by rcases sg with s | s <;> omega) v0
  clear alt halt hig u0 v0 sg HX HY;go_wp2_with fail;rw [EW.out];clear EW cC0';go_region_held3 (fun w' => w'.cell? ⟨w3.heap.size,0,none⟩ = some (.int .i64 A) ∧ w'.cell? ⟨w3.heap.size,1,none⟩ = some (.int .i64 B) ∧ w'.cell? ⟨w3.heap.size + 1,0,none⟩ = some (.int .i64 C) ∧ w'.cell? ⟨w3.heap.size + 1,1,none⟩ = some (.int .i64 D))
   (first
    | ((try dsimp only);refine ⟨?_,?_,?_,?_⟩ <;> with_reducible assumption)
    | (refine HKB.out _ ?_;repeat (first | with_reducible exact HP2.out | with_reducible exact HP1.out | with_reducible exact Below.refl _ _ | with_reducible apply Below.drew)))
   (first
    | (go_at_call_of 75 (Value.agg #[Value.int IntKind.i64 A,Value.int IntKind.i64 B]);refine (HO1.out _ ?_).mono ?_;(repeat (first | exact Below.refl _ _ | apply Below.drew));rintro e w6 ⟨us,ru,rfl,o1,c1,v1,b1⟩;have HP1 := hid (zAA (w0 := W5) (by repeat (first | exact Below.refl _ _ | apply Below.drew)) b1);have HU := hid (o1.lower (B' := B0) (by have := HSZ.out;show B0 ≤ W5.heap.size;omega));obtain ⟨k0,k1,k2,k3⟩ := HKB.out w6 HP1.out;clear o1 b1)
    | (go_at_call_of 75 (Value.agg #[Value.int IntKind.i64 C,Value.int IntKind.i64 D]);refine (HO2.out _ ?_).mono ?_;(repeat (first | exact HP1.out | apply Below.drew));rintro e w7 ⟨vs,rv,rfl,o2,c2,v2,b2⟩;have HB12 : Hid (Below w6.heap.size w6 w7) := zAA (w0 := w6) (by repeat (first | exact Below.refl _ _ | apply Below.drew)) b2;have HP2 := hid (zAA HP1.out HB12.out);have HVV := hid (o2.lower (B' := B0) (by have := HSZ.out;have := HP1.out.size;show B0 ≤ w6.heap.size;omega));obtain ⟨l0,l1,l2,l3⟩ := HKB.out w7 HP2.out;clear o2 b2))
  all_goals (try go_wp2)
  all_goals go_ret2
  all_goals exact ⟨us,vs,ru,rv,rfl,HU.out.stay HB12.out,HVV.out,c1,c2,by rw [v1,v2];exact HF.out.2.2.2,by rw [v1,v2];exact Int.le_of_lt HF.out.1,by rw [v2];exact HF.out.2.1,by rw [v1];exact HF.out.2.2.1,zAA K5.out HP2.out⟩
end Go.Proofs.Ytppddlbkdoebmaa
