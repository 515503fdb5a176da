/-
 QReadDec4ToZWritten: ReadDec4, ZRead, Awake5, ZMet, TailX, ZWritten, joined.
-/
import Derived.Test.YtkdobgbicnemcaaGreatDoorQJoinedToByr4
import Derived.Test.YtkdobgbicnemcaaGreatDoorQAlikeToShift
import Derived.Test.YtkdobgbicnemcaaGreatDoorQZStoreToLst9
import Derived.Test.YtkdobgbicnemcaaGreatDoorQZDivsToRowsI
import Derived.Deep.Cut
import Derived.Test.YtkdobgbicnemcaaGreatDoorQFil9ToDot9
import Derived.Deep.LoopGhost

set_option maxRecDepth 100000
set_option maxHeartbeats 6400000
set_option linter.unusedVariables false
set_option linter.unusedSimpArgs false
namespace Go.Proofs.YtkdobgbicnemcaaGreatDoor
open Go.RowKit
theorem readDec_any {w : World} {l : List UInt8} (hT : Sg w) (hl : l.length ≤ 1000000000) :
  Calls Tryz.prog 118 #[.string ⟨l.toArray⟩] w (zIE w 10 l) := by
 have HR := hid (read_any (B := 10) (by omega) (by omega) hT hl);clear hT hl;obtain ⟨s,hs⟩ : ∃ s,s = (⟨l.toArray⟩ : ByteArray) := ⟨_,rfl⟩
 rw [← hs] at HR ⊢;clear hs;go_enter Tryz.func118,Tryz.ntmps118;go_wp2_with fail;refine HR.out.mono ?_;rintro e w1 h;clear HR;rcases h with ⟨g,zs,a,c,rfl,h2⟩ | ⟨g,rfl,h2⟩
 ·replace g := hid g
  replace h2 := hid h2;go_wp2;go_ret2;exact .inl ⟨g.out,zs,a,c,rfl,h2.out⟩
 ·replace g := hid g
  replace h2 := hid h2;go_wp2;go_ret2;exact .inr ⟨g.out,rfl,h2.out⟩
theorem has_take {l p : List UInt8} (h : p.length ≤ l.length) : (((⟨l.toArray⟩ : ByteArray).extract 0 p.length).toList == (⟨p.toArray⟩ : ByteArray).toList) = decide (l.take p.length = p) := by
 have e : (⟨p.toArray⟩ : ByteArray).toList = p := Lib.toList_data _;rw [Lib.extract_mk,Lib.toList_data,e];simp [Bool.beq_eq_decide_eq]
theorem has_short {l p : List UInt8} (h : ¬ p.length ≤ l.length) : decide (l.take p.length = p) = false := by
 apply decide_eq_false
 intro e;have := congrArg List.length e;simp at this;omega
theorem zMB (l : List UInt8) (n : Nat) (h : n ≤ l.length) : (⟨l.toArray⟩ : ByteArray).extract n (⟨l.toArray⟩ : ByteArray).size = ⟨(l.drop n).toArray⟩ := by
 rw [zqA,Lib.extract_mk]
 apply ByteArray.ext
 simp [List.take_of_length_le]
theorem hasPrefix_any (w : World) (l p : List UInt8) : Calls Tryz.prog 166 #[.string ⟨l.toArray⟩,.string ⟨p.toArray⟩] w fun e w' => e = .returned (.bool (decide (l.take p.length = p))) ∧ w' = w := by
 have HS : Hid ((⟨l.toArray⟩ : ByteArray).size = l.length) := zqA l;have HP : Hid ((⟨p.toArray⟩ : ByteArray).size = p.length) := zqA p;have HA : Hid (p.length ≤ l.length → (((⟨l.toArray⟩ : ByteArray).extract 0 p.length).toList == (⟨p.toArray⟩ : ByteArray).toList) = decide (l.take p.length = p)) := fun h => has_take h
 have HB : Hid (¬ p.length ≤ l.length → decide (l.take p.length = p) = false) := fun h => has_short h
 generalize (⟨l.toArray⟩ : ByteArray) = s at *;generalize (⟨p.toArray⟩ : ByteArray) = t at *;rw [← HS.out,← HP.out] at HA HB;rw [← HP.out];generalize decide (l.take t.size = p) = d at *;clear HS HP;go_enter Tryz.func166,Tryz.ntmps166;go_wp2
 ·rename_i h
  go_ret;refine ⟨?_,rfl⟩;rw [← HA.out h]
  rfl
 ·rename_i h
  go_ret;refine ⟨?_,rfl⟩;rw [HB.out h]
  rfl
theorem str_from (w : World) (s : ByteArray) (q : Nat) (h : q ≤ s.size) : (Instr.slice 9 (.string s) (some (.int .i64 (q : Int))) none none).run Tryz.prog w = .ok (.string (s.extract q s.size)) w := by
 have i3 : (q : Int) ≤ (s.size : Int) := by omega
 have i1 : (0 : Int) ≤ (q : Int) := by omega
 go_simp
theorem cutPrefixL_any (w : World) (l p : List UInt8) : Calls Tryz.prog 160 #[.string ⟨l.toArray⟩,.string ⟨p.toArray⟩] w fun e w' => e = .returned (.tuple #[.string ⟨(if l.take p.length = p then l.drop p.length else l).toArray⟩,.bool (decide (l.take p.length = p))]) ∧ w' = w := by
 have HH := hid (hasPrefix_any w l p)
 by_cases h : l.take p.length = p
 ·have hl : p.length ≤ l.length := by
   have := congrArg List.length h;simp at this;omega
  rw [if_pos h,← zMB l _ hl];rw [decide_eq_true h] at HH ⊢;have HSL : Hid (∀ w,(Instr.slice 9 (.string ⟨l.toArray⟩) (some (.int .i64 ((⟨p.toArray⟩ : ByteArray).size : Int))) none none).run Tryz.prog w = .ok (.string ((⟨l.toArray⟩ : ByteArray).extract p.length (⟨l.toArray⟩ : ByteArray).size)) w) := fun w => by
   rw [zqA p];exact str_from w _ _ (by rw [zqA];exact hl)
  generalize (⟨l.toArray⟩ : ByteArray) = s at *;generalize (⟨p.toArray⟩ : ByteArray) = t at *;generalize s.extract p.length s.size = u at *;clear h hl;go_enter Tryz.func160,Tryz.ntmps160;go_wp2_with fail;refine HH.out.mono ?_;rintro e w1 ⟨rfl,rfl⟩;have sl := HSL.out;clear HH;go_wp2;go_ret2;exact ⟨rfl,rfl⟩
 ·rw [if_neg h]
  rw [decide_eq_false h] at HH ⊢;generalize (⟨l.toArray⟩ : ByteArray) = s at *;generalize (⟨p.toArray⟩ : ByteArray) = t at *;clear h;go_enter Tryz.func160,Tryz.ntmps160;go_wp2_with fail;refine HH.out.mono ?_;rintro e w1 ⟨rfl,rfl⟩;clear HH;go_wp2;go_ret2;exact ⟨rfl,rfl⟩
theorem zUC (w : World) (l p : List UInt8) : Calls Tryz.prog 141 #[.string ⟨l.toArray⟩,.string ⟨p.toArray⟩] w fun e w' => e = .returned (.tuple #[.string ⟨(if l.take p.length = p then l.drop p.length else l).toArray⟩,.bool (decide (l.take p.length = p))]) ∧ w' = w := by
 have HH := hid (cutPrefixL_any w l p);generalize (⟨(if l.take p.length = p then l.drop p.length else l).toArray⟩ : ByteArray) = u at *;generalize (⟨l.toArray⟩ : ByteArray) = s at *;generalize (⟨p.toArray⟩ : ByteArray) = t at *;generalize decide (l.take p.length = p) = d at *;go_enter Tryz.func141,Tryz.ntmps141;go_wp2_with fail;refine HH.out.mono ?_;rintro e w1 ⟨rfl,rfl⟩;clear HH;go_wp2;go_ret2;exact ⟨rfl,rfl⟩
def cutS (l : List UInt8) : Bool × List UInt8 :=
 if l.take 1 = [43] then (false,l.drop 1) else if l.take 1 = [45] then (true,l.drop 1) else if l.take 3 = [226,136,146] then (true,l.drop 3) else (false,l)
theorem cutS_len (l : List UInt8) : (cutS l).2.length ≤ l.length := by
 unfold cutS
 (repeat' split) <;> simp
theorem cutSign_any (w : World) (l : List UInt8) : Calls Tryz.prog 117 #[.string ⟨l.toArray⟩] w fun e w' => e = .returned (.tuple #[.bool (cutS l).1,.string ⟨(cutS l).2.toArray⟩]) ∧ w' = w := by
 have H1 : Hid (∀ w,Calls Tryz.prog 141 #[.string ⟨l.toArray⟩,.string ⟨#[43]⟩] w fun e w' => e = .returned (.tuple #[.string ⟨(if l.take 1 = [43] then l.drop 1 else l).toArray⟩,.bool (decide (l.take 1 = [43]))]) ∧ w' = w) := fun w => zUC w l [43]
 have H2 : Hid (∀ w,Calls Tryz.prog 141 #[.string ⟨l.toArray⟩,.string ⟨#[45]⟩] w fun e w' => e = .returned (.tuple #[.string ⟨(if l.take 1 = [45] then l.drop 1 else l).toArray⟩,.bool (decide (l.take 1 = [45]))]) ∧ w' = w) := fun w => zUC w l [45]
 have H3 : Hid (∀ w,Calls Tryz.prog 141 #[.string ⟨l.toArray⟩,.string ⟨#[226,136,146]⟩] w fun e w' => e = .returned (.tuple #[.string ⟨(if l.take 3 = [226,136,146] then l.drop 3 else l).toArray⟩,.bool (decide (l.take 3 = [226,136,146]))]) ∧ w' = w) := fun w => zUC w l [226,136,146]
 unfold cutS
 by_cases h1 : l.take 1 = [43]
 ·simp only [if_pos h1,decide_eq_true h1] at H1 ⊢
  generalize (⟨(l.drop 1).toArray⟩ : ByteArray) = u at *;generalize (⟨l.toArray⟩ : ByteArray) = s at *;clear h1 H2 H3;go_enter Tryz.func117,Tryz.ntmps117;go_wp2_with fail;refine (H1.out _).mono ?_;rintro e w1 ⟨rfl,rfl⟩;clear H1;go_wp2;go_ret2;exact ⟨rfl,rfl⟩
 ·simp only [if_neg h1,decide_eq_false h1] at H1 ⊢
  by_cases h2 : l.take 1 = [45]
  ·simp only [if_pos h2,decide_eq_true h2] at H2 ⊢
   generalize (⟨(l.drop 1).toArray⟩ : ByteArray) = u at *;generalize (⟨l.toArray⟩ : ByteArray) = s at *;clear h1 h2 H3;go_enter Tryz.func117,Tryz.ntmps117;go_wp2_with fail;refine (H1.out _).mono ?_;rintro e w1 ⟨rfl,rfl⟩;clear H1;go_wp2_with fail;refine (H2.out _).mono ?_;rintro e w1 ⟨rfl,rfl⟩;clear H2;go_wp2;go_ret2;exact ⟨rfl,rfl⟩
  ·simp only [if_neg h2,decide_eq_false h2] at H2 ⊢
   have e3 : (if l.take 3 = [226,136,146] then (true,l.drop 3) else (false,l)) = (decide (l.take 3 = [226,136,146]),if l.take 3 = [226,136,146] then l.drop 3 else l) := by split <;> simp_all
   rw [e3];generalize (⟨(if l.take 3 = [226,136,146] then l.drop 3 else l).toArray⟩ : ByteArray) = u at *;generalize decide (l.take 3 = [226,136,146]) = d at *;generalize (⟨l.toArray⟩ : ByteArray) = s at *;clear h1 h2 e3;go_enter Tryz.func117,Tryz.ntmps117;go_wp2_with fail;refine (H1.out _).mono ?_;rintro e w1 ⟨rfl,rfl⟩;clear H1;go_wp2_with fail;refine (H2.out _).mono ?_;rintro e w1 ⟨rfl,rfl⟩;clear H2;go_wp2_with fail;refine (H3.out _).mono ?_;rintro e w1 ⟨rfl,rfl⟩;clear H3;go_wp2;go_ret2;exact ⟨rfl,rfl⟩
def sval (l : List UInt8) : Int := if (cutS l).1 = true then -((ofD 10 (dsL (cutS l).2) : Nat) : Int) else ((ofD 10 (dsL (cutS l).2) : Nat) : Int)
def zgA (l : List UInt8) : Prop := (cutS l).2 ≠ [] ∧ Good 10 (cutS l).2
def ztxt (z : Int) : ByteArray := if z < 0 then ⟨#[45]⟩ ++ txt 10 z.natAbs else txt 10 z.natAbs
theorem zWI {n : Bool} {xs : List Int} {z : Int} (hx : WF xs) (h : iv n xs = z) : vn xs = z.natAbs := by
 have h1 := zbC hx h;have h2 := zJA hx;omega
theorem zZI {w : World} {v : Value} {z : Int} {k : Nat} (h : Zi w v z k) (hk : k ≤ 1048576) (hT : Sg w) :
  Calls Tryz.prog 19 #[v] w fun e w' => e = .returned (.string (ztxt z)) ∧ Below w.heap.size w w' := by
 have hv := h;obtain ⟨n,xs,a,c,rfl,s0,z0,k0⟩ := h;obtain ⟨W0,hW0⟩ : ∃ W0,w.alloc (duo (.bool n) (.slice a xs.length c)) = W0 := ⟨_,rfl⟩
 have b0 : Below w.heap.size w W0 := by rw [← hW0];exact (Below.refl _ _).alloc (Nat.le_refl _) _
 have sz0 : W0.heap.size = w.heap.size + 1 := by rw [← hW0];simp
 have p0 : Duo W0 w.heap.size (.bool n) (.slice a xs.length c) := by rw [← hW0];exact Duo.new w _ _
 have HS := hid (zbB (hv.now b0));have HD : Hid (∀ w',Below W0.heap.size W0 w' → Calls Tryz.prog 60 #[.slice a xs.length c] w' fun e w'' => e = .returned (.string (txt 10 z.natAbs)) ∧ Below w'.heap.size w' w'') := fun w' h => by
  rw [← zWI s0.1 z0];exact dec_any ((s0.now b0).now h) (by omega) ((hT.now b0).now h)
 have HKB : Hid (∀ w',Below W0.heap.size W0 w' → Duo w' w.heap.size (.bool n) (.slice a xs.length c)) := fun w' h => p0.below h (by omega)
 have EW := hid hW0;have B0 := hid b0;have HSZ : Hid ((txt 10 z.natAbs).size ≤ 67108865) := by
  unfold Hid;rw [← zWI s0.1 z0];exact zoG (by omega) s0.1 (by omega)
 clear hv s0 z0 hT hW0 b0 p0
 by_cases hz : z < 0
 ·have hs : cmpI z 0 < 0 := zAC hz
  have ht : Hid (ztxt z = ⟨#[45]⟩ ++ txt 10 z.natAbs) := by unfold Hid ztxt;rw [if_pos hz]
  rw [ht.out];generalize cmpI z 0 = C at *;have hsz := HSZ.out;clear HSZ;generalize txt 10 z.natAbs = t at *;go_enter Tryz.func19,Tryz.ntmps19;go_wp2_with fail;rw [EW.out];refine HS.out.mono ?_;rintro e w1 ⟨rfl,b1⟩;have c1 := (HKB.out w1 b1).c1;have H1 := hid (HD.out w1 b1);have B1 := hid (below_step B0.out b1);clear b1 HS;go_wp2_with fail;refine H1.out.mono ?_;rintro e w2 ⟨rfl,b2⟩;have B2 := hid (below_step B1.out b2);clear b2 H1;go_wp2;go_ret;exact ⟨rfl,B2.out⟩
 ·have hs : ¬ cmpI z 0 < 0 := zxA (by omega)
  have ht : Hid (ztxt z = txt 10 z.natAbs) := by unfold Hid ztxt;rw [if_neg hz]
  rw [ht.out];generalize cmpI z 0 = C at *;generalize txt 10 z.natAbs = t at *;go_enter Tryz.func19,Tryz.ntmps19;go_wp2_with fail;rw [EW.out];refine HS.out.mono ?_;rintro e w1 ⟨rfl,b1⟩;have c1 := (HKB.out w1 b1).c1;have H1 := hid (HD.out w1 b1);have B1 := hid (below_step B0.out b1);clear b1 HS;go_wp2_with fail;refine H1.out.mono ?_;rintro e w2 ⟨rfl,b2⟩;have B2 := hid (below_step B1.out b2);clear b2 H1;go_wp2;go_ret;exact ⟨rfl,B2.out⟩
theorem txt_15 : txt 10 15 = ⟨#[49,53]⟩ := by
 have e : lead (digF 10 15 15) = [1,5] := by
  rw [zWD (k := 2) (lt_pow_self (by omega) 15) (by decide)]
  decide
 unfold txt txtL;rw [if_neg (by decide),e]
 rfl
theorem ztxt_15 : ztxt (-15) = ⟨#[45,49,53]⟩ := by
 unfold ztxt;rw [if_pos (by decide),show (-15 : Int).natAbs = 15 from rfl,txt_15]
 rfl
theorem awake5_any {w : World} (hT : Sg w) : Calls Tryz.prog 5 #[] w fun e w' => e = .returned (.bool true) ∧ Below w.heap.size w w' := by
 obtain ⟨W0,hW0⟩ : ∃ W0,(w.alloc (.cells #[.int .u64 3,.int .u64 0] 53)).alloc (.cells #[.int .u64 5] 53) = W0 := ⟨_,rfl⟩
 obtain ⟨b0,sz0⟩ := zXA w (.cells #[.int .u64 3,.int .u64 0] 53) (.cells #[.int .u64 5] 53);rw [hW0] at b0 sz0;have l1 := (zJH w [3,0] #[.int .u64 3,.int .u64 0] rfl (zdC (by omega) (zdC (by omega) WF.nil)) (by simp) 2 rfl).later (.cells #[.int .u64 5] 53);have l2 := zID (w.alloc (.cells #[.int .u64 3,.int .u64 0] 53)) 5 (by omega);rw [hW0] at l1 l2;simp only [World.size_alloc] at l2;have HM := hid (zVI (w := W0) (v := .agg #[.bool true,.slice (some ⟨w.heap.size,0,none⟩) 2 2]) (u := .agg #[.bool false,.slice (some ⟨w.heap.size + 1,0,none⟩) 1 1]) (z := -3) (y := 5) (k := 2) (l := 1) ⟨true,[3,0],_,2,rfl,l1,by simp [iv,val],by simp⟩ ⟨false,[5],_,1,rfl,l2,by simp [iv,val],by simp⟩ (by omega));have ez : (-3 : Int) * 5 = -15 := by decide
 rw [ez] at HM;have HT := hid (hT.now b0);have EW := hid hW0;have B0 := hid b0;clear hT l1 l2 hW0 b0 ez;go_enter Tryz.func5,Tryz.ntmps5;go_wp2_with fail;rw [EW.out];refine HM.out.mono ?_;rintro e w1 ⟨r,rfl,m1,b1⟩;have hz := m1.zi;obtain ⟨n,zs,a,c,rfl,h1,h2,h3,h4,h5⟩ := m1;obtain ⟨rfl,rfl⟩ := zfI (n := n) (m := true) (xs := zs) (ys := [15]) (by rw [h4];simp [iv,val]) h2 ⟨zdC (by omega) WF.nil,rfl⟩ h3 (fun e => by cases e);obtain ⟨W1,hW1⟩ : ∃ W1,w1.alloc (duo (.bool true) (.slice a [(15 : Int)].length c)) = W1 := ⟨_,rfl⟩
 have k1 : Below w1.heap.size w1 W1 := by rw [← hW1];exact (Below.refl _ _).alloc (Nat.le_refl _) _
 have sz1 : W1.heap.size = w1.heap.size + 1 := by rw [← hW1];simp
 have p1 : Duo W1 w1.heap.size (.bool true) (.slice a [(15 : Int)].length c) := by rw [← hW1];exact Duo.new w1 _ _
 have HX := hid (zZI (hz.now k1) (by omega) ((HT.out.now b1).now k1));rw [ztxt_15] at HX;have HKB : Hid (∀ w',Below W1.heap.size W1 w' → Duo w' w1.heap.size (.bool true) (.slice a [(15 : Int)].length c)) := fun w' h => p1.below h (by omega)
 have HS1 := hid (h1.sl.now k1);have B1 := hid (below_step (below_step B0.out b1) k1);have EW1 := hid hW1;clear hz h1 h2 h3 h4 h5 hW1 k1 p1 b1 HM HT;go_wp2_with fail;simp only [List.length_cons,List.length_nil,Nat.zero_add] at EW1 HKB HX HS1;rw [EW1.out];refine HX.out.mono ?_;rintro e w2 ⟨rfl,b2⟩;have c0 := (HKB.out w2 b2).c0;have c1 := (HKB.out w2 b2).c1;have hs := HS1.out.now b2;obtain ⟨_,a',c',he,_,_,e | ⟨b,off,hab,_,hcell⟩⟩ := hs
 ·cases e
 simp only [Value.slice.injEq] at he;obtain ⟨rfl,-,rfl⟩ := he;subst hab;have d0 : w2.cell? ⟨b,off,none⟩ = some (.int .u64 15) := hcell 0 (by simp);have B2 := hid (below_step B1.out b2);have q1 : ((1 : Int) == 1) = true := rfl;have q15 : ((15 : Int) == 15) = true := rfl;clear hcell b2 HX HS1;go_wp2;go_ret;exact ⟨rfl,B2.out⟩

section
variable {P : Program} {ops : Array Oper} {Q : Exit → Act → World → Prop} {md : Region.Mode} {S : World → Prop} {X : List Nat}
end
theorem zKD : ∀ j : Nat,((10 ^ j : Nat) : Int) ≤ pw j
 | 0 => by simp [pw]
 | j + 1 => by
  have h := zKD j;have h0 : (0 : Int) ≤ ((10 ^ j : Nat) : Int) := Int.natCast_nonneg _;have e : ((10 ^ (j + 1) : Nat) : Int) = ((10 ^ j : Nat) : Int) * 10 := by rw [Nat.pow_succ,Int.natCast_mul];rfl
  rw [e]
  show _ ≤ wB * pw j
  unfold wB;generalize ((10 ^ j : Nat) : Int) = x at *;generalize pw j = y at *;omega
def hv (d : List UInt8) (j : Nat) : Int := ((ofD 10 (dsL (d.take j)) : Nat) : Int)
end Go.Proofs.YtkdobgbicnemcaaGreatDoor
