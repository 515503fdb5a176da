/-
 QExact0ToRDivMod: Exact0, Exact, Wakes3, RDigits, RWords, RMul, RAdd, ROrder, RLeast, Rebuilt, RDivMod, joined.
-/
import Derived.Test.YtppddlbkdoebmaaQDivMod
import Derived.Test.YtppddlbkdoebmaaQSplitToJoin
import Derived.Test.YtppddlbkdoebmaaQLen2ToRowsI
import Derived.Test.YtppddlbkdoebmaaQRDivide

set_option maxRecDepth 100000
set_option maxHeartbeats 6400000
set_option linter.unusedVariables false
set_option linter.unusedSimpArgs false
namespace Go.Proofs.Ytppddlbkdoebmaa
open Go.RowKit
theorem div_one {X Y q r q' r' : Int} (h : X = Y * q + r) (h' : X = Y * q' + r') (a : 0 ≤ r) (b : r < Y) (a' : 0 ≤ r') (b' : r' < Y) : q' = q ∧ r' = r := by
 have e : Y * (q' - q) = r - r' := by rw [Int.mul_sub];omega
 rcases Int.lt_trichotomy (q' - q) 0 with k | k | k
 ·have := Int.mul_le_mul_of_nonneg_left (show q' - q ≤ -1 by omega) (show 0 ≤ Y by omega)
  rw [Int.mul_neg,Int.mul_one] at this;omega
 ·rw [k,Int.mul_zero] at e
  omega
 ·have := Int.mul_le_mul_of_nonneg_left (show 1 ≤ q' - q by omega) (show 0 ≤ Y by omega)
  rw [Int.mul_one] at this;omega
theorem exact_zero {w : World} {v u : Value} {ys : List Int} (h' : Sl w.heap.size w u ys) (h0 : wid ys = 0) :
  Calls Try.prog 28 #[v,u] w fun e w' => e = .returned (.tuple #[.slice none 0 0,.int .i64 4]) ∧ Below w.heap.size w w' := by
 have HD := zrD (v := v) h' h0;have hz : ((4 : Int) != 0) = true := rfl;go_enter Try.func28,Try.ntmps28;go_wp2_with fail;refine HD.mono ?_;rintro e w1 ⟨rfl,hb⟩;have HB := hid hb;clear HD hb;go_wp2;go_ret2;exact ⟨rfl,HB.out⟩
def zTG (w : World) (xs ys : List Int) (e : Ending) (w' : World) : Prop :=
 ∃ qs rs,zFA qs ∧ zFA rs ∧ val xs = val ys * val qs + val rs ∧ val rs < val ys ∧ qs.length ≤ xs.length ∧ Below w.heap.size w w' ∧
  ((rs = [] ∧ ∃ q,e = .returned (.tuple #[q,.int .i64 0]) ∧ Own w.heap.size w' q qs) ∨ (rs ≠ [] ∧ e = .returned (.tuple #[.slice none 0 0,.int .i64 8])))
theorem zmD {w : World} {v u : Value} {xs ys : List Int} (h : Sl w.heap.size w v xs) (h' : Sl w.heap.size w u ys) (h1 : wid ys ≠ 0) (hxl : xs.length ≤ 1099511627776) (hyl : ys.length ≤ 1099511627776) :
  Calls Try.prog 28 #[v,u] w (zTG w xs ys) := by
 have HD := zTC h h' h1 hxl hyl;have hz : ((0 : Int) != 0) = false := rfl;clear h h' h1;go_enter Try.func28,Try.ntmps28;go_wp2_with fail;refine HD.mono ?_;rintro e w1 ⟨qs,rs,q,r,rfl,hoq,hor,hcq,hcr,hv,hlt,hlq,hlr,_,hb⟩;obtain ⟨ra,rc,rfl⟩ := hor.form;have HX : Hid (val xs = val ys * val qs + val rs ∧ val rs < val ys) := ⟨hv,hlt⟩
 have HB := hid hb;have HO := hid hoq;clear HD hb hoq hor hv hlt
 by_cases hr : rs = []
 ·subst hr
  go_wp2;go_ret2;exact ⟨qs,[],hcq,hcr,HX.out.1,HX.out.2,hlq,HB.out,.inl ⟨rfl,q,rfl,HO.out⟩⟩
 ·obtain ⟨k,hk⟩ : ∃ k,rs.length = k + 1 := ⟨rs.length - 1,by have := Nat.pos_of_ne_zero (fun e => hr (List.eq_nil_of_length_eq_zero e));omega⟩
  rw [hk];go_wp2;go_ret2;exact ⟨qs,rs,hcq,hcr,HX.out.1,HX.out.2,hlq,HB.out,.inr ⟨hr,rfl⟩⟩

theorem wake3_is {zs : List Int} {r : Int} (hc : zFA zs) (h0 : 0 ≤ r) (h1 : r < 2) (hv : val [7] = 2 * val zs + r) : zs = [3] ∧ r = 1 := by
 have e : val [7] = 7 := by simp [val]
 rw [e] at hv;have h3 : val zs = 3 := by omega
 exact ⟨canon_inj hc ⟨zCB (by omega) WF.nil,rfl⟩ (by rw [h3];simp [val]),by omega⟩
theorem wakes3_any (w : World) : Calls Try.prog 5 #[] w fun e w' => e = .returned (.bool true) ∧ Below w.heap.size w w' := by
 go_enter Try.func5,Try.ntmps5;go_wp2_with fail;refine (zEB (xs := [7]) (W := 2) ?_ (by unfold IsW wB;omega) (by omega)).mono ?_
 ·exact zQD w [7] _ rfl (zCB (by omega) WF.nil) (by simp) 1 rfl
 rintro e w1 ⟨zs,q,r,rfl,ho,hc,hrw,hr2,hv,_,hb⟩;obtain ⟨rfl,rfl⟩ := wake3_is hc hrw.1 hr2 hv;have hb1 : Below w.heap.size w w1 := ((Below.refl _ _).alloc (Nat.le_refl _) _).trans (hb.mono (by simp));obtain ⟨_,⟨_,e⟩ | ⟨g,rr,_,_,rfl,hrow⟩⟩ := ho
 ·cases e
 have c0 : w1.cell? ⟨g,0,none⟩ = some (.int .u64 3) := hrow.word (xs := [3]) (i := 0) (by simp);clear hrow hc hv hb;go_wp2;go_ret;exact ⟨rfl,hb1⟩





theorem rleast_any {w : World} {v : Value} {xs : List Int} (h : Sl w.heap.size w v xs) (hlen : xs.length ≤ 8796093022208) :
  Calls Try.prog 15 #[v] w (Told w (val xs)) := by
 have HS := hid (split_any h hlen);clear h;go_enter Try.func15,Try.ntmps15;go_wp2_with fail;refine HS.out.mono ?_;rintro e w1 ⟨ds,r,rfl,hs,hc,hv,_,hb⟩;have HV := hid hv;clear hv HS;go_wp2_with fail;refine (join_any hs hc.1).mono ?_;rintro e w2 ⟨zs,q,rfl,ho,hcz,hvz,hb2⟩;have HVZ := hid hvz;clear hvz;go_wp2;go_ret;refine ⟨zs,q,rfl,⟨ho.1,?_⟩,hcz,by rw [HVZ.out,HV.out],zAA hb hb2⟩;rcases ho.2 with h1 | ⟨g,r',h1,h2,h3,h4⟩
 ·exact .inl h1
 ·exact .inr ⟨g,r',Nat.le_trans hb.size h1,h2,h3,h4⟩

theorem zVB {w : World} {v u : Value} {D E : List Int} (h : Sl w.heap.size w v D) (h' : Sl w.heap.size w u E) (hD : zMA D) (hE : zMA E) (hn : E ≠ []) (hlen : D.length ≤ 8796093022208) :
  Calls Try.prog 42 #[v,u] w (zVD w D E) := by
 by_cases q : D.length < E.length
 ·exact rdivide_short h h' hD hE q
 ·exact rdivide_long h h' hD hE hn (by omega) hlen
theorem zEC {w : World} {v u : Value} {ys : List Int} (h' : Sl w.heap.size w u ys) (h0 : wid ys = 0) (hl : ys.length ≤ 1099511627776) :
  Calls Try.prog 21 #[v,u] w fun e w' => e = .returned (.tuple #[.slice none 0 0,.slice none 0 0,.int .i64 4]) ∧ Below w.heap.size w w' := by
 have HH := zdA h' (by omega);have hz : ((0 : Int) == 0) = true := rfl;go_enter Try.func21,Try.ntmps21;go_wp2_with fail;refine HH.mono ?_;rintro e w1 ⟨D,r,rfl,hs,hc,hv,hl,hb⟩;have : D = [] := zkD hc (by rw [hv];exact zmA ys h0);subst this;obtain ⟨_,a,cap,rfl,_⟩ := hs;have HB := hid hb;clear HH hb;go_wp2;go_ret3;exact ⟨rfl,HB.out⟩
theorem zbC {w : World} {v u : Value} {xs ys : List Int} (h : Sl w.heap.size w v xs) (h' : Sl w.heap.size w u ys) (h1 : wid ys ≠ 0) (hxl : xs.length ≤ 1099511627776) (hyl : ys.length ≤ 1099511627776) :
  Calls Try.prog 21 #[v,u] w (zqC w xs ys) := by
 have HX := hid h;have HH := zdA h' (by omega);have HYP := hid (zgA h'.1 (by omega));have WX := hid h.1;clear h h' h1;go_enter Try.func21,Try.ntmps21;go_wp2_with fail;refine HH.mono ?_;rintro e w1 ⟨E,vE,rfl,hsE,hcE,hvE,hlE,b1⟩;have hEn : E ≠ [] := fun e => by
  subst e;have := HYP.out;simp [hval] at hvE;omega
 have HSE := hid hsE;obtain ⟨_,aE,capE,rfl,_⟩ := hsE;have hel : E.length ≠ 0 := fun e => hEn (List.eq_nil_of_length_eq_zero e)
 have hz : ((E.length : Int) == 0) = false := by rw [beq_eq_false_iff_ne];omega
 have B1 := hid b1;have HX1 := hid (zdA (HX.out.now b1) (by omega));have HVE := hid hvE;clear HH b1 HX hvE;go_wp2_with fail;refine HX1.out.mono ?_;rintro e w2 ⟨D,vD,rfl,hsD,hcD,hvD,hlD,b2⟩;have HDV := hid (zVB hsD (HSE.out.now b2) hcD hcE hEn (by omega));have B2 := hid b2;have HVD := hid hvD;clear HX1 b2 hvD HSE;go_wp2_with fail;refine HDV.out.mono ?_;rintro e w3 ⟨qs,rs,vq,vr,rfl,hsq,hsr,hcq,hcr,hdv,hlt,hlq,hlr,b3⟩;have HWQ := hid (zoA hsq hcq.1 (by omega));have HSR := hid hsr;have B3 := hid b3;have HDVV : Hid (hval D = hval E * hval qs + hval rs ∧ hval rs < hval E) := ⟨hdv,hlt⟩
 clear HDV b3 hdv hlt hsq hsr;go_wp2_with fail;refine HWQ.out.mono ?_;rintro e w4 ⟨qz,vq4,rfl,hoq,hcq4,hvq4,b4⟩;have HWR := hid (zoA (HSR.out.now b4) hcr.1 (by omega));have B4 := hid b4;have HOQ := hid hoq;clear HWQ hoq b4 HSR;go_wp2_with fail;refine HWR.out.mono ?_;rintro e w5 ⟨rz,vr5,rfl,hor,hcr5,hvr5,b5⟩;have HOR := hid hor;have B5 := hid b5;clear HWR hor b5;go_wp2;go_ret3;have s1 := B1.out.size;have s2 := B2.out.size;have s3 := B3.out.size;have s4 := B4.out.size;have f1 : val xs = val ys * val qz + val rz := by rw [hvq4,hvr5,← HVE.out,← HVD.out];exact HDVV.out.1
 have f2 : val rz < val ys := by rw [hvr5,← HVE.out];exact HDVV.out.2
 have f4 := HYP.out;have a1 := val_nonneg hcq4.1;have a2 := val_nonneg hcr5.1;have f5 : val qz ≤ val xs := by
  have a3 := Int.mul_le_mul_of_nonneg_right (show 1 ≤ val ys by omega) a1;rw [Int.one_mul] at a3;omega
 have f5' : val rz ≤ val xs := by
  have a3 := Int.mul_nonneg (show 0 ≤ val ys by omega) a1;omega
 have f6 := zSA hcq4 (canon_lst WX.out) (by rw [val_lst xs];exact f5);have f7 := zSA hcr5 (canon_lst WX.out) (by rw [val_lst xs];exact f5');rw [length_lst xs] at f6 f7;have f8 := zIA xs;exact ⟨qz,rz,vq4,vr5,rfl,(HOQ.out.lower (by omega)).stay B5.out,HOR.out.lower (by omega),hcq4,hcr5,f1,f2,by omega,by omega,zmE HOQ.out HOR.out (Nat.le_refl _),zAA (zAA (zAA (zAA B1.out B2.out) B3.out) B4.out) B5.out⟩
theorem rexact_zero {w : World} {v u : Value} {ys : List Int} (h' : Sl w.heap.size w u ys) (h0 : wid ys = 0) (hl : ys.length ≤ 1099511627776) :
  Calls Try.prog 22 #[v,u] w fun e w' => e = .returned (.tuple #[.slice none 0 0,.int .i64 4]) ∧ Below w.heap.size w w' := by
 have HD := zEC (v := v) h' h0 hl;have hz : ((4 : Int) != 0) = true := rfl;go_enter Try.func22,Try.ntmps22;go_wp2_with fail;refine HD.mono ?_;rintro e w1 ⟨rfl,hb⟩;have HB := hid hb;clear HD hb;go_wp2;go_ret2;exact ⟨rfl,HB.out⟩
theorem rexact_any {w : World} {v u : Value} {xs ys : List Int} (h : Sl w.heap.size w v xs) (h' : Sl w.heap.size w u ys) (h1 : wid ys ≠ 0) (hxl : xs.length ≤ 1099511627776) (hyl : ys.length ≤ 1099511627776) :
  Calls Try.prog 22 #[v,u] w (zTG w xs ys) := by
 have HD := zbC h h' h1 hxl hyl;have hz : ((0 : Int) != 0) = false := rfl;clear h h' h1;go_enter Try.func22,Try.ntmps22;go_wp2_with fail;refine HD.mono ?_;rintro e w1 ⟨qs,rs,q,r,rfl,hoq,hor,hcq,hcr,hv,hlt,hlq,hlr,_,hb⟩;obtain ⟨ra,rc,rfl⟩ := hor.form;have HX : Hid (val xs = val ys * val qs + val rs ∧ val rs < val ys) := ⟨hv,hlt⟩
 have HB := hid hb;have HO := hid hoq;clear HD hb hoq hor hv hlt
 by_cases hr : rs = []
 ·subst hr
  go_wp2;go_ret2;exact ⟨qs,[],hcq,hcr,HX.out.1,HX.out.2,hlq,HB.out,.inl ⟨rfl,q,rfl,HO.out⟩⟩
 ·obtain ⟨k,hk⟩ : ∃ k,rs.length = k + 1 := ⟨rs.length - 1,by have := Nat.pos_of_ne_zero (fun e => hr (List.eq_nil_of_length_eq_zero e));omega⟩
  rw [hk];go_wp2;go_ret2;exact ⟨qs,rs,hcq,hcr,HX.out.1,HX.out.2,hlq,HB.out,.inr ⟨hr,rfl⟩⟩
theorem wid_word {W : Int} (h : W ≠ 0) : wid [W] ≠ 0 := by simp [wid,h]
theorem rword_zero {w : World} {v : Value} : Calls Try.prog 20 #[v,.int .u64 0] w fun e w' => e = .returned (.tuple #[.slice none 0 0,.int .u64 0,.int .i64 4]) ∧ Below w.heap.size w w' := by
 have hz : ((0 : Int) == 0) = true := rfl;go_enter Try.func20,Try.ntmps20;go_wp2_with fail;refine (zEC (ys := [0]) (zQD w [0] _ rfl (zCB (by omega) WF.nil) (by simp) 1 rfl) rfl (by simp)).mono ?_;rintro e w1 ⟨rfl,hb⟩;have HB : Hid (Below w.heap.size w w1) := ((Below.refl _ _).alloc (Nat.le_refl _) _).trans (hb.mono (by simp));clear hb;go_wp2;go_ret3;exact ⟨rfl,HB.out⟩
theorem rword_any {w : World} {v : Value} {xs : List Int} {W : Int} (h : Sl w.heap.size w v xs) (hW : IsW W) (h0 : 0 < W) (hxl : xs.length ≤ 1099511627776) :
  Calls Try.prog 20 #[v,.int .u64 W] w (zyF w xs W) := by
 have HX := hid (h.later (.cells #[.int .u64 W] 26));have l0 := zIA xs;have WX := hid h.1;clear h;go_enter Try.func20,Try.ntmps20;go_wp2_with fail;have hlit : Sl (w.alloc (.cells #[.int .u64 W] 26)).heap.size (w.alloc (.cells #[.int .u64 W] 26)) (.slice (some ⟨w.heap.size,0,none⟩) 1 1) [W] := zQD w [W] _ rfl (WF.cons hW WF.nil) (by simp) 1 rfl;refine (zbC HX.out hlit (wid_word (by omega)) hxl (by simp)).mono ?_;rintro e w1 ⟨qs,rs,q,r,rfl,hoq,hor,hcq,hcr,hv,hlt,hlq,hlr,_,hb⟩;have hb1 : Below w.heap.size w w1 := ((Below.refl _ _).alloc (Nat.le_refl _) _).trans (hb.mono (by simp));have e1 : val [W] = W := by simp [val]
 rw [e1] at hv hlt;have lq : qs.length ≤ wid xs := by
  have a1 := val_nonneg hcq.1;have a2 := val_nonneg hcr.1;have a3 := Int.mul_le_mul_of_nonneg_right (show 1 ≤ W by omega) a1;rw [Int.one_mul] at a3;have := zSA hcq (canon_lst WX.out) (by rw [val_lst xs];omega);rw [length_lst] at this;exact this
 have HOQ := hid (hoq.lower (B' := w.heap.size) (by simp));have HB := hid hb1;have lr : rs.length ≤ 1 := by
  have := zSA hcr (canon_lst (WF.cons hW WF.nil)) (by rw [val_lst,e1];omega);rw [length_lst] at this;have := zIA [W];simp at this;omega
 clear hb hb1 hoq hlit HX;rcases rs with _ | ⟨t,rs'⟩
 ·obtain ⟨ra,rc,rfl⟩ := hor.form
  have hz : ((0 : Int) == 0) = true := rfl;go_wp2;go_ret3;exact ⟨qs,q,0,rfl,HOQ.out,hcq,by unfold IsW wB;omega,h0,by rw [hv];simp [val],lq,HB.out⟩
 ·have : rs' = [] := List.eq_nil_of_length_eq_zero (by simp at lr;simpa using lr)
  subst this;have htw := hcr.1.head;have et : val [t] = t := by simp [val]
  rw [et] at hv hlt;obtain ⟨_,⟨_,e⟩ | ⟨g,rr,_,_,rfl,hrow⟩⟩ := hor
  ·cases e
  have c0 : ∀ n,(w1.drewN n).cell? ⟨g,0,none⟩ = some (.int .u64 t) := fun n => Row.word (xs := [t]) (i := 0) (hrow.drewN n) (by simp)
  have c0' : w1.cell? ⟨g,0,none⟩ = some (.int .u64 t) := c0 0;have hz : ((1 : Int) == 0) = false := rfl;have HV := hid hv;clear hv hrow;go_wp2_with fail;go_quiet (fail);go_wp2;go_ret3;exact ⟨qs,q,t,rfl,HOQ.out,hcq,htw,hlt,HV.out,lq,below_drewN HB.out _⟩
end Go.Proofs.Ytppddlbkdoebmaa
