/-
 QExactToR5Div: Exact, Wakes3, RAdd, Rebuilt, RDivMod, R5Div, joined.
-/
import Derived.Test.YtkdobgbicnemcaaGreatDoorQExact0ToZDiv
import Derived.Test.YtkdobgbicnemcaaGreatDoorQSplitToRDigits
import Derived.Test.YtkdobgbicnemcaaGreatDoorQRWordsToR5Ones
import Derived.Test.YtkdobgbicnemcaaGreatDoorQRDivide
import Derived.Test.YtkdobgbicnemcaaGreatDoorQR5CmpToTrim3
import Derived.Deep.RegionHeld3

set_option maxRecDepth 100000
set_option maxHeartbeats 6400000
set_option linter.unusedVariables false
set_option linter.unusedSimpArgs false
namespace Go.Proofs.YtkdobgbicnemcaaGreatDoor
open Go.RowKit

theorem zvF {D : List Int} (h : DF D) (k : Nat) : 0 ≤ D.getD k 0 ∧ D.getD k 0 ≤ 65535 := by
 by_cases hk : k < D.length
 ·have hx := h.get hk
  unfold IsD dwB at hx;rw [show D.getD k 0 = D[k] by simp [hk]];omega
 ·rw [show D.getD k 0 = 0 by simp [show D.length ≤ k by omega]];omega
theorem zpC (D : List Int) (k : Nat) : dval (D.take (k + 1)) = dval (D.take k) + D.getD k 0 * dpw k := by
 by_cases hk : k < D.length
 ·rw [zDC D k hk,show D.getD k 0 = D[k] by simp [hk]]
 ·rw [show D.getD k 0 = 0 by simp [show D.length ≤ k by omega],List.take_of_length_le (by omega),List.take_of_length_le (by omega)];simp
theorem zcH (n : Nat) : DF (List.replicate n 0) ∧ dval (List.replicate n 0) = 0 := by
 have h : DF (List.replicate n 0) := fun x hx => by rw [List.eq_of_mem_replicate hx];unfold IsD dwB;omega
 refine ⟨h,?_⟩
 induction n with
 | zero => rfl
 | succ n ih => rw [List.replicate_succ,dval,ih (fun x hx => h x (by rw [List.replicate_succ];simp [hx]))];simp
theorem Own.from {B B' : Nat} {w : World} {v : Value} {zs : List Int} (h : Own B w v zs) (hB : B' ≤ B) : Own B' w v zs := by
 refine ⟨h.1,?_⟩;rcases h.2 with h1 | ⟨g,r',h1,h2,h3,h4⟩
 ·exact .inl h1
 ·exact .inr ⟨g,r',Nat.le_trans hB h1,h2,h3,h4⟩
theorem zXF {D : List Int} (h : DF D) : ∀ p ∈ D,-9223372036854775808 ≤ p ∧ p ≤ 9223372036854775807 := fun p hp => by have := h p hp;unfold IsD dwB at this;omega
theorem radd_any {w : World} {v u : Value} {xs ys : List Int} (h : Sl w.heap.size w v xs) (h' : Sl w.heap.size w u ys) (hlen : xs.length ≤ 1099511627776) (hlen' : ys.length ≤ 1099511627776) :
  Calls Tryz.prog 63 #[v,u] w (Told w (val xs + val ys)) := by
 go_enter Tryz.func63,Tryz.ntmps63;go_wp2_with fail;refine (zLB h (by omega)).mono ?_;rintro e w1 ⟨X,rx,rfl,hs,hcx,hvx,hlx,hb⟩;have h1 := h'.now hb;have HVX := hid hvx;clear hvx h h';go_wp2_with fail;refine (zLB h1 (by omega)).mono ?_;rintro e w2 ⟨Y,ry,rfl,hsy,hcy,hvy,hly,hb2⟩;have hsx := hs.now hb2;have HVY := hid hvy;have hb12 := hid (below_step hb hb2);clear hvy h1 hs hb hb2;have hX := hsx;have hY := hsy;obtain ⟨-,ax,capx,rfl,-,-,-⟩ := hsx;obtain ⟨-,ay,capy,rfl,-,-,-⟩ := hsy;have HX := hid hX;have HY := hid hY;have HCX := hid hcx.1;have HCY := hid hcy.1;clear hX hY hcx hcy;obtain ⟨n,hn⟩ : ∃ n,n = max X.length Y.length := ⟨_,rfl⟩
 have hn1 : X.length ≤ n := by omega
 have hn2 : Y.length ≤ n := by omega
 have hn3 : n ≤ 4398046511104 := by omega
 have HZ := hid (zcH (n + 1))
 by_cases hlt : (X.length : Int) < (Y.length : Int)
 focus
  obtain rfl : n = Y.length := by omega
  clear hn;go_wp2_with (at_make;refine zfA _ rfl _ _ rfl _ _ (Y.length + 1) (Y.length + 1) rfl rfl (by omega) (by omega) (Nat.le_refl _) (by omega) ?_)
  generalize hN : Y.length = n at *;have HNN : Hid (X.length ≤ n ∧ Y.length ≤ n) := ⟨by omega,by omega⟩
  clear hN
 rotate_left
 focus
  obtain rfl : n = X.length := by omega
  clear hn;go_wp2_with (at_make;refine zfA _ rfl _ _ rfl _ _ (X.length + 1) (X.length + 1) rfl rfl (by omega) (by omega) (Nat.le_refl _) (by omega) ?_)
  generalize hN : X.length = n at *;have HNN : Hid (X.length ≤ n ∧ Y.length ≤ n) := ⟨by omega,by omega⟩
  clear hN
 rotate_left
 all_goals
  intro w3 hrow hb3 hsz3;have hhs : w2.heap.size < w3.heap.size := by have := hsz3.out;omega
  have HV0 : Hid (dval (List.replicate (n + 1) 0) + dpw 0 * 0 = dval (X.take 0) + dval (Y.take 0)) := by unfold Hid;rw [HZ.out.2];simp [dval]
  clear hsz3;go_wp2_with fail
  go_loopw [9,10] (fun c i wr => ∃ (k : Nat) (zs : List Int) (cc : Int),k ≤ n ∧ i = .int .i64 k ∧ c = .int .i64 cc ∧ 0 ≤ cc ∧ cc ≤ 1 ∧ Hid (zs.length = n + 1) ∧ Hid (DF zs) ∧ Hid (∀ j (h : j < zs.length),k ≤ j → zs[j] = 0) ∧
    Hid (dval zs + dpw k * cc = dval (X.take k) + dval (Y.take k)) ∧ RowI wr w2.heap.size (wi zs) ∧ Below w2.heap.size w2 wr ∧ w2.heap.size < wr.heap.size) (fun _ i _ => n - (intOf i).toNat)
  case atStart => exact ⟨0,_,0,Nat.zero_le _,rfl,rfl,by omega,by omega,(by unfold Hid;simp),HZ.out.1,(fun j h _ => by simp),HV0,hrow,hb3,hhs⟩
  case round =>
   clear HV0 hrow hb3 hhs HZ;obtain ⟨k,zs,cc,hk,rfl,rfl,hc0,hc1,HL,HD,HZ,HV,hr,hb,hhs⟩ := hrel
   by_cases hkn : k < n
   ·have hk1 : k < zs.length := by have := HL.out;omega
    have hz0 : zs[k] = 0 := HZ.out k hk1 (Nat.le_refl _);have hx := zvF HCX.out k;have hy := zvF HCY.out k;have HTX := hid (zpC X k);have HTY := hid (zpC Y k);have HAX := hid (zKI (HX.out.below hb) k);have HAY := hid (zKI (HY.out.below hb) k);have cf : wr.frozen? ⟨w2.heap.size,k,none⟩ = false := hr.frozen _;have c1 : wr.cell? ⟨w2.heap.size,k,none⟩ = some (.int .i64 zs[k]) := RowI.num (r := []) (by simpa using hr) hk1;generalize X.getD k 0 = x at *;generalize Y.getD k 0 = y at *;obtain ⟨hx0,hx1⟩ := hx;obtain ⟨hy0,hy1⟩ := hy;have HR := RowI.setNum (r := []) (by simpa using hr) hk1 ((x + y + cc) % 65536);have HB := hb.setCell (p := ⟨w2.heap.size,k,none⟩) (Nat.le_refl _) (.int .i64 ((x + y + cc) % 65536));have HV' := hid (dcarry_step (xs := []) (ysT := dval (X.take k) + dval (Y.take k)) (ysT' := dval (X.take (k + 1)) + dval (Y.take (k + 1))) (p := dpw (k + 1)) (y := x + y) (s := (x + y + cc) % 65536) (d := (x + y + cc) / 65536) (c := cc) hk1 (by rw [HV.out];simp [dval]) (by rw [HTX.out,HTY.out,Int.add_mul];omega) (by rw [hz0];unfold dwB;omega) rfl);have HD' : Hid (DF (zs.set k ((x + y + cc) % 65536))) := HD.out.set k (by unfold IsD dwB;omega);have HZ' : Hid (∀ j (h : j < (zs.set k ((x + y + cc) % 65536)).length),k + 1 ≤ j → (zs.set k ((x + y + cc) % 65536))[j] = 0) := fun j h hj => by
     rw [List.getElem_set_ne (by omega)];exact HZ.out j (by simpa using h) (by omega)
    have HL' : Hid ((zs.set k ((x + y + cc) % 65536)).length = n + 1) := by unfold Hid;rw [List.length_set];exact HL.out
    have hhs' : w2.heap.size < (wr.setCell ⟨w2.heap.size,k,none⟩ (.int .i64 ((x + y + cc) % 65536))).heap.size := by simpa using hhs
    clear hr hb HL HD HZ HV hhs;generalize zs[k] = z at *;go_wp2_with fail;refine HAX.out.mono ?_;rintro e w4 ⟨rfl,rfl⟩;go_wp2_with fail;refine HAY.out.mono ?_;rintro e w5 ⟨rfl,rfl⟩;clear HAX HAY;go_wp2;go_roundw
    case rel => exact ⟨k + 1,_,_,by omega,by go_num,rfl,by omega,by omega,HL',HD',HZ',(by unfold Hid;simpa [dval] using HV'.out),(by simpa using HR),HB,hhs'⟩
    case measure => simp [intOf];omega
   ·obtain rfl : k = n := by omega
    have hk1 : k < zs.length := by have := HL.out;omega
    have hz0 : zs[k] = 0 := HZ.out k hk1 (Nat.le_refl _);have cf : wr.frozen? ⟨w2.heap.size,k,none⟩ = false := hr.frozen _;have c1 : wr.cell? ⟨w2.heap.size,k,none⟩ = some (.int .i64 zs[k]) := RowI.num (r := []) (by simpa using hr) hk1;have HR := RowI.setNum (r := []) (by simpa using hr) hk1 cc;have HB := hb.setCell (p := ⟨w2.heap.size,k,none⟩) (Nat.le_refl _) (.int .i64 cc);have HD' : Hid (DF (zs.set k cc)) := HD.out.set k (by unfold IsD dwB;omega);have HV' : Hid (dval (zs.set k cc) = val xs + val ys) := by
     unfold Hid;rw [zRC zs k cc hk1,hz0,← HVX.out,← HVY.out];have := HV.out;rw [List.take_of_length_le HNN.out.1,List.take_of_length_le HNN.out.2] at this;rw [Int.sub_zero,Int.mul_comm];exact this
    have HL' : Hid ((zs.set k cc).length = k + 1) := by unfold Hid;rw [List.length_set];exact HL.out
    have hhs' : w2.heap.size < (wr.setCell ⟨w2.heap.size,k,none⟩ (.int .i64 cc)).heap.size := by simpa using hhs
    clear hr hb HL HD HZ HV hhs;generalize zs.set k cc = Z at *;generalize zs[k] = z at *;have hR : RowI (wr.setCell ⟨w2.heap.size,k,none⟩ (.int .i64 cc)) w2.heap.size (wi Z) := by simpa using HR
    have hsz := RowI.sl (r := []) (by simpa using hR) (zXF HD'.out) (cap := k + 1) (by rw [HL'.out];exact Nat.le_refl _) (by omega) hhs';rw [HL'.out] at hsz;have HJ := hid (zsF hsz HD'.out);have HBB := hid (below_step hb12.out HB);clear hsz hR HR HB;go_wp2_with fail;refine HJ.out.mono ?_;rintro e w4 ⟨qs,q,rfl,ho,hcz,hvz,hb5⟩;have HVZ := hid hvz;clear hvz;go_wp2;go_ret;exact ⟨qs,q,rfl,ho.from HBB.out.size,hcz,by rw [HVZ.out,HV'.out],below_step HBB.out hb5⟩

theorem rdivide_any {w : World} {v u : Value} {D E : List Int} (h : Sl w.heap.size w v D) (h' : Sl w.heap.size w u E) (hD : zBC D) (hE : zBC E) (hn : E ≠ []) (hlen : D.length ≤ 8796093022208) :
  Calls Tryz.prog 129 #[v,u] w (zJE w D E) := by
 by_cases q : D.length < E.length
 ·exact rdivide_short h h' hD hE q
 ·exact rdivide_long h h' hD hE hn (by omega) hlen
theorem rdivMod_zero {w : World} {v u : Value} {ys : List Int} (h' : Sl w.heap.size w u ys) (h0 : wid ys = 0) (hl : ys.length ≤ 1099511627776) :
  Calls Tryz.prog 104 #[v,u] w fun e w' => e = .returned (.tuple #[.slice none 0 0,.slice none 0 0,.int .i64 4]) ∧ Below w.heap.size w w' := by
 have HH := zED h' (by omega);have hz : ((0 : Int) == 0) = true := rfl;go_enter Tryz.func104,Tryz.ntmps104;go_wp2_with fail;refine HH.mono ?_;rintro e w1 ⟨D,r,rfl,hs,hc,hv,hl,hb⟩;have : D = [] := hcanon_zero hc (by rw [hv];exact zvA ys h0);subst this;obtain ⟨_,a,cap,rfl,_⟩ := hs;have HB := hid hb;clear HH hb;go_wp2;go_ret3;exact ⟨rfl,HB.out⟩
theorem rdivMod_any {w : World} {v u : Value} {xs ys : List Int} (h : Sl w.heap.size w v xs) (h' : Sl w.heap.size w u ys) (h1 : wid ys ≠ 0) (hxl : xs.length ≤ 1099511627776) (hyl : ys.length ≤ 1099511627776) :
  Calls Tryz.prog 104 #[v,u] w (zdD w xs ys) := by
 have HX := hid h;have HH := zED h' (by omega);have HYP := hid (zwA h'.1 (by omega));have WX := hid h.1;clear h h' h1;go_enter Tryz.func104,Tryz.ntmps104;go_wp2_with fail;refine HH.mono ?_;rintro e w1 ⟨E,vE,rfl,hsE,hcE,hvE,hlE,b1⟩;have hEn : E ≠ [] := fun e => by
  subst e;have := HYP.out;simp [hval] at hvE;omega
 have HSE := hid hsE;obtain ⟨_,aE,capE,rfl,_⟩ := hsE;have hel : E.length ≠ 0 := fun e => hEn (List.eq_nil_of_length_eq_zero e)
 have hz : ((E.length : Int) == 0) = false := by rw [beq_eq_false_iff_ne];omega
 have B1 := hid b1;have HX1 := hid (zED (HX.out.now b1) (by omega));have HVE := hid hvE;clear HH b1 HX hvE;go_wp2_with fail;refine HX1.out.mono ?_;rintro e w2 ⟨D,vD,rfl,hsD,hcD,hvD,hlD,b2⟩;have HDV := hid (rdivide_any hsD (HSE.out.now b2) hcD hcE hEn (by omega));have B2 := hid b2;have HVD := hid hvD;clear HX1 b2 hvD HSE;go_wp2_with fail;refine HDV.out.mono ?_;rintro e w3 ⟨qs,rs,vq,vr,rfl,hsq,hsr,hcq,hcr,hdv,hlt,hlq,hlr,b3⟩;have HWQ := hid (zHF hsq hcq.1 (by omega));have HSR := hid hsr;have B3 := hid b3;have HDVV : Hid (hval D = hval E * hval qs + hval rs ∧ hval rs < hval E) := ⟨hdv,hlt⟩
 clear HDV b3 hdv hlt hsq hsr;go_wp2_with fail;refine HWQ.out.mono ?_;rintro e w4 ⟨qz,vq4,rfl,hoq,hcq4,hvq4,b4⟩;have HWR := hid (zHF (HSR.out.now b4) hcr.1 (by omega));have B4 := hid b4;have HOQ := hid hoq;clear HWQ hoq b4 HSR;go_wp2_with fail;refine HWR.out.mono ?_;rintro e w5 ⟨rz,vr5,rfl,hor,hcr5,hvr5,b5⟩;have HOR := hid hor;have B5 := hid b5;clear HWR hor b5;go_wp2;go_ret3;have s1 := B1.out.size;have s2 := B2.out.size;have s3 := B3.out.size;have s4 := B4.out.size;have f1 : val xs = val ys * val qz + val rz := by rw [hvq4,hvr5,← HVE.out,← HVD.out];exact HDVV.out.1
 have f2 : val rz < val ys := by rw [hvr5,← HVE.out];exact HDVV.out.2
 have f4 := HYP.out;have a1 := zEA hcq4.1;have a2 := zEA hcr5.1;have f5 : val qz ≤ val xs := by
  have a3 := Int.mul_le_mul_of_nonneg_right (show 1 ≤ val ys by omega) a1;rw [Int.one_mul] at a3;omega
 have f5' : val rz ≤ val xs := by
  have a3 := Int.mul_nonneg (show 0 ≤ val ys by omega) a1;omega
 have f6 := zXB hcq4 (canon_lst WX.out) (by rw [val_lst xs];exact f5);have f7 := zXB hcr5 (canon_lst WX.out) (by rw [val_lst xs];exact f5');rw [length_lst xs] at f6 f7;have f8 := zRA xs;exact ⟨qz,rz,vq4,vr5,rfl,(HOQ.out.lower (by omega)).stay B5.out,HOR.out.lower (by omega),hcq4,hcr5,f1,f2,by omega,by omega,zlH HOQ.out HOR.out (Nat.le_refl _),below_step (below_step (below_step (below_step B1.out B2.out) B3.out) B4.out) B5.out⟩
theorem zLC {w : World} {va vb : Value} {A B : Int} {ka kb : Nat} (ha : Zi w va A ka) (hb : Zi w vb B kb) (hB : B = 0) (hl : kb ≤ 1099511627776) :
  Calls Tryz.prog 67 #[va,vb] w (zZA 4 w 0 0 ka ka) := by
 have za0 := ha;obtain ⟨na,xa,aa,ca,rfl,sa,ea,la⟩ := ha;have zb0 := hb;obtain ⟨nb,xb,ab,cb,rfl,sb,eb,lb⟩ := hb;obtain ⟨W0,hW0⟩ : ∃ W0,(((w.alloc (duo (.bool na) (.slice aa xa.length ca))).alloc (duo (.bool nb) (.slice ab xb.length cb))).alloc zbox).alloc zbox = W0 := ⟨_,rfl⟩
 obtain ⟨b0,sz0⟩ := zNB w (duo (.bool na) (.slice aa xa.length ca)) (duo (.bool nb) (.slice ab xb.length cb)) zbox zbox;rw [hW0] at b0 sz0;have pa : Duo W0 (w.heap.size) (.bool na) (.slice aa xa.length ca) := by rw [← hW0];exact zAA (zAA (zAA (zCA (by simp)) _) _) _
 have pb : Duo W0 (w.heap.size + 1) (.bool nb) (.slice ab xb.length cb) := by rw [← hW0];exact zAA (zAA (zCA (by simp)) _) _
 have r0 : Duo W0 (w.heap.size + 1 + 1) (.bool false) (.slice none 0 0) := by rw [← hW0];exact zAA (zCA (by simp)) _
 have r1 : Duo W0 (w.heap.size + 1 + 1 + 1) (.bool false) (.slice none 0 0) := by rw [← hW0];exact zCA (by simp)
 have Pa := hid pa;have ia0 := pa.c0;have ia1 := pa.c1;have Za := hid (za0.now b0);have Sa := hid (sa.now b0);have Pb := hid pb;have ib0 := pb.c0;have ib1 := pb.c1;have Zb := hid (zb0.now b0);have Sb := hid (sb.now b0);have R0 := hid r0;have R1 := hid r1;have EW := hid hW0;have G := hid b0;clear b0 hW0 za0 sa pa zb0 sb pb r0 r1;have HD := hid (rdivMod_zero (v := .slice aa xa.length ca) Sb.out ((zGC Sb.out.1 eb).2 hB) (by omega));have q4 : ((4 : Int) != 0) = true := rfl;clear ea eb hB;go_enter Tryz.func67,Tryz.ntmps67;go_wp2_with fail;rw [EW.out];clear ia0 ia1 ib0 ib1;refine HD.out.mono ?_;rintro e w1 ⟨rfl,b⟩;replace R0 := hid (R0.out.step b);replace R1 := hid (R1.out.step b);replace G := hid (below_step G.out b);clear b HD;have y00 := R0.out.c0;have y01 := R0.out.c1;have f00 := R0.out.fz 0;have f01 := R0.out.fz 1;have y10 := R1.out.c0;have y11 := R1.out.c1;have f10 := R1.out.fz 0;have f11 := R1.out.fz 1;go_wp2;refine bodyPost_ret (zback2 Tryz.results67 ((R0.out.set _ _).box (by omega) _ _) ((R1.out.box (by omega) _ _).set _ _) _ (by rfl) (by rfl) (by rfl)) rfl ?_;exact ⟨_,_,rfl,zLA _ _ _,zLA _ _ _,bset (bset (bset (bset G.out (by omega)) (by omega)) (by omega)) (by omega)⟩
theorem zuB {w : World} {va vb : Value} {A B : Int} {ka kb : Nat} (ha : Zi w va A ka) (hb : Zi w vb B kb) (hB : B ≠ 0) (hk : ka ≤ 1099511627776) (hl : kb ≤ 1099511627776) :
  Calls Tryz.prog 67 #[va,vb] w (zZA 0 w (A.tdiv B) (A.tmod B) ka ka) := by
 have za0 := ha;obtain ⟨na,xa,aa,ca,rfl,sa,ea,la⟩ := ha;have zb0 := hb;obtain ⟨nb,xb,ab,cb,rfl,sb,eb,lb⟩ := hb;obtain ⟨W0,hW0⟩ : ∃ W0,(((w.alloc (duo (.bool na) (.slice aa xa.length ca))).alloc (duo (.bool nb) (.slice ab xb.length cb))).alloc zbox).alloc zbox = W0 := ⟨_,rfl⟩
 obtain ⟨b0,sz0⟩ := zNB w (duo (.bool na) (.slice aa xa.length ca)) (duo (.bool nb) (.slice ab xb.length cb)) zbox zbox;rw [hW0] at b0 sz0;have pa : Duo W0 (w.heap.size) (.bool na) (.slice aa xa.length ca) := by rw [← hW0];exact zAA (zAA (zAA (zCA (by simp)) _) _) _
 have pb : Duo W0 (w.heap.size + 1) (.bool nb) (.slice ab xb.length cb) := by rw [← hW0];exact zAA (zAA (zCA (by simp)) _) _
 have r0 : Duo W0 (w.heap.size + 1 + 1) (.bool false) (.slice none 0 0) := by rw [← hW0];exact zAA (zCA (by simp)) _
 have r1 : Duo W0 (w.heap.size + 1 + 1 + 1) (.bool false) (.slice none 0 0) := by rw [← hW0];exact zCA (by simp)
 have Pa := hid pa;have ia0 := pa.c0;have ia1 := pa.c1;have Za := hid (za0.now b0);have Sa := hid (sa.now b0);have Pb := hid pb;have ib0 := pb.c0;have ib1 := pb.c1;have Zb := hid (zb0.now b0);have Sb := hid (sb.now b0);have R0 := hid r0;have R1 := hid r1;have EW := hid hW0;have G := hid b0;clear b0 hW0 za0 sa pa zb0 sb pb r0 r1;have HD := hid (rdivMod_any Sa.out Sb.out (fun e => hB ((zGC Sb.out.1 eb).1 e)) (by omega) (by omega));have HV : Hid (∀ qs rs,zHA rs → val xa = val xb * val qs + val rs → val rs < val xb → iv (na != nb) qs = A.tdiv B ∧ iv na rs = A.tmod B) := fun qs rs hr h h1 => by
  rw [← ea,← eb];exact zHI Sa.out.1 hr.1 h h1
 have q0 : ((0 : Int) != 0) = false := rfl;clear ea eb hB;go_enter Tryz.func67,Tryz.ntmps67;go_wp2_with fail;rw [EW.out];clear ia0 ia1 ib0 ib1;refine HD.out.mono ?_;rintro e w1 ⟨qs,rs,q,r,rfl,hoq,hor,hcq,hcr,hv,hlt,hlq,hlr,_,b⟩;obtain ⟨qa,qc,rfl⟩ := hoq.form;obtain ⟨ra,rc,rfl⟩ := hor.form;have MQ := hid hoq.sl;have MR := hid hor.sl;have HVV := hid (HV.out qs rs hcr hv hlt);have lw := b.size;replace Pa := hid (Pa.out.step b);have ia0 := Pa.out.c0;have ia1 := Pa.out.c1;replace Pb := hid (Pb.out.step b);have ib0 := Pb.out.c0;have ib1 := Pb.out.c1;replace R0 := hid (R0.out.step b);replace R1 := hid (R1.out.step b);replace G := hid (below_step G.out b);have KS : Hid (∀ w',Below w1.heap.size w1 w' → w'.cell? ⟨w.heap.size,0,none⟩ = some (.bool na) ∧ w'.cell? ⟨w.heap.size + 1,0,none⟩ = some (.bool nb)) := fun w' h => ⟨(Pa.out.step h).c0,(Pb.out.step h).c0⟩
 have H1 : Hid (∀ w',Below w1.heap.size w1 w' → _) := fun w' h => znB (n := na != nb) (MQ.out.now h) (by omega)
 rw [HVV.out.1] at H1;have H2 : Hid (∀ w',Below w1.heap.size w1 w' → _) := fun w' h => znB (n := na) (MR.out.now h) (by omega)
 rw [HVV.out.2] at H2;clear hoq hor hv hlt b HD HV ia1 ib1;go_wp2_with fail;go_region_held3 (fun w' => w'.cell? ⟨w.heap.size,0,none⟩ = some (.bool na) ∧ w'.cell? ⟨w.heap.size + 1,0,none⟩ = some (.bool nb))
  (first
   | ((try dsimp only);refine ⟨?_,?_⟩ <;> with_reducible (repeat (refine zAF (by omega) ?_)) <;> with_reducible assumption)
   | (refine KS.out _ ?_;repeat (first | with_reducible exact HP3.out | with_reducible exact HP2.out | with_reducible exact Below.refl _ _ | with_reducible apply Below.drew)))
  (first
   | (have _ := HP2;go_at_call 61;refine (H2.out _ (below_step HP2.out (by repeat (first | exact Below.refl _ _ | apply Below.drew)))).mono ?_;rintro e3 w3 ⟨r3,rfl,m3,b3⟩;have HB3 : Hid (Below w2.heap.size w2 w3) := below_step (w0 := w2) (by repeat (first | exact Below.refl _ _ | apply Below.drew)) b3;have HP3 := hid (below_step HP2.out HB3.out);obtain ⟨c30,c31⟩ := KS.out w3 HP3.out;have Z3 := hid m3;obtain ⟨n3,x3,a3,q3,rfl,-,-,-,-,-⟩ := m3;have RA := hid (R0.out.step HP3.out);have RB := hid (R1.out.step HP3.out);have y0 := RA.out.c0;have y1 := RA.out.c1;have y2 := RB.out.c0;have y3 := RB.out.c1;have f0 := RA.out.fz 0;have f1 := RA.out.fz 1;have f2 := RB.out.fz 0;have f3 := RB.out.fz 1)
   | (go_at_call 61;refine (H1.out _ (by repeat (first | exact Below.refl _ _ | apply Below.drew))).mono ?_;rintro e2 w2 ⟨r2,rfl,m2,b2⟩;have HP2 : Hid (Below w1.heap.size w1 w2) := below_step (w0 := w1) (by repeat (first | exact Below.refl _ _ | apply Below.drew)) b2;obtain ⟨c20,c21⟩ := KS.out w2 HP2.out;have Z2 := hid m2;obtain ⟨n2,x2,a2,q2,rfl,-,-,-,-,-⟩ := m2))
 all_goals go_wp2
 all_goals have le2 := HP2.out.size
 all_goals refine bodyPost_ret (zback2 Tryz.results67 ((RA.out.set _ _).box (by omega) _ _) ((RB.out.box (by omega) _ _).set _ _) _ (by rfl) (by rfl) (by rfl)) rfl ?_
 all_goals exact zhC (B := W0.heap.size) (((Z2.out.mono (by first | omega | (simp;omega))).now HB3.out).more (by omega)) ((Z3.out.mono (by first | omega | (simp;omega))).more (by omega)) (below_step G.out HP3.out) (by omega) (by omega) (by omega) (by omega)
theorem rexact_none {w : World} {va vb : Value} {A B : Int} {ka kb : Nat} (ha : Zi w va A ka) (hb : Zi w vb B kb) (hB : B = 0) (hl : kb ≤ 1099511627776) :
  Calls Tryz.prog 70 #[va,vb] w (zMA 4 w 0 ka) := by
 have za0 := ha;obtain ⟨na,xa,aa,ca,rfl,sa,ea,la⟩ := ha;have zb0 := hb;obtain ⟨nb,xb,ab,cb,rfl,sb,eb,lb⟩ := hb;obtain ⟨W0,hW0⟩ : ∃ W0,((w.alloc (duo (.bool na) (.slice aa xa.length ca))).alloc (duo (.bool nb) (.slice ab xb.length cb))).alloc zbox = W0 := ⟨_,rfl⟩
 obtain ⟨b0,sz0⟩ := zKB w (duo (.bool na) (.slice aa xa.length ca)) (duo (.bool nb) (.slice ab xb.length cb)) zbox;rw [hW0] at b0 sz0;have pa : Duo W0 (w.heap.size) (.bool na) (.slice aa xa.length ca) := by rw [← hW0];exact zAA (zAA (zCA (by simp)) _) _
 have pb : Duo W0 (w.heap.size + 1) (.bool nb) (.slice ab xb.length cb) := by rw [← hW0];exact zAA (zCA (by simp)) _
 have r0 : Duo W0 (w.heap.size + 1 + 1) (.bool false) (.slice none 0 0) := by rw [← hW0];exact zCA (by simp)
 have Pa := hid pa;have ia0 := pa.c0;have ia1 := pa.c1;have Za := hid (za0.now b0);have Sa := hid (sa.now b0);have Pb := hid pb;have ib0 := pb.c0;have ib1 := pb.c1;have Zb := hid (zb0.now b0);have Sb := hid (sb.now b0);have R0 := hid r0;have EW := hid hW0;have G := hid b0;clear b0 hW0 za0 sa pa zb0 sb pb r0;have q4 : ((4 : Int) != 0) = true := rfl;clear ea eb;go_enter Tryz.func70,Tryz.ntmps70;go_wp2_with fail;rw [EW.out];clear ia0 ia1 ib0 ib1;refine (zLC Za.out Zb.out hB hl).mono ?_;rintro e w1 ⟨rq,rr,rfl,m1,m2,b⟩;obtain ⟨n1,x1,a1,q1,rfl,-,-,-,-,-⟩ := id m1;obtain ⟨n2,x2,a2,q2,rfl,-,-,-,-,-⟩ := id m2;obtain ⟨W1,hW1⟩ : ∃ W1,(w1.alloc (duo (.bool n1) (.slice a1 x1.length q1))).alloc (duo (.bool n2) (.slice a2 x2.length q2)) = W1 := ⟨_,rfl⟩
 obtain ⟨kW,sz1⟩ := zXA w1 (duo (.bool n1) (.slice a1 x1.length q1)) (duo (.bool n2) (.slice a2 x2.length q2));rw [hW1] at kW sz1;have lw := b.size;have d1 : Duo W1 w1.heap.size (.bool n1) (.slice a1 x1.length q1) := by rw [← hW1];exact zAA (zCA rfl) _
 have d2 : Duo W1 (w1.heap.size + 1) (.bool n2) (.slice a2 x2.length q2) := by rw [← hW1];exact zCA (by simp)
 replace b := below_step b kW;replace R0 := hid (R0.out.step b);replace G := hid (below_step G.out b);have Z1 := hid (m1.now kW);have Z2 := hid (m2.now kW);have P1 := hid d1;have P2 := hid d2;have EW1 := hid hW1;clear b m1 m2 kW;have y00 := R0.out.c0;have y01 := R0.out.c1;have f00 := R0.out.fz 0;have f01 := R0.out.fz 1;rw [← hW1] at y00 y01 f00 f01;clear hW1 d1 d2;go_wp2_with fail;rw [EW1.out];exact bodyPost_ret (zWA Tryz.results70 (R0.out.set _ _) _ (by rfl) (by rfl)) rfl (zrA (B := W0.heap.size) (zLA _ _ _) G.out (by omega) (by omega))
theorem rexact_yes {w : World} {va vb : Value} {A B : Int} {ka kb : Nat} (ha : Zi w va A ka) (hb : Zi w vb B kb) (hB : B ≠ 0) (hk : ka ≤ 1099511627776) (hl : kb ≤ 1099511627776) (hr : A.tmod B = 0) :
  Calls Tryz.prog 70 #[va,vb] w (zMA 0 w (A.tdiv B) ka) := by
 have za0 := ha;obtain ⟨na,xa,aa,ca,rfl,sa,ea,la⟩ := ha;have zb0 := hb;obtain ⟨nb,xb,ab,cb,rfl,sb,eb,lb⟩ := hb;obtain ⟨W0,hW0⟩ : ∃ W0,((w.alloc (duo (.bool na) (.slice aa xa.length ca))).alloc (duo (.bool nb) (.slice ab xb.length cb))).alloc zbox = W0 := ⟨_,rfl⟩
 obtain ⟨b0,sz0⟩ := zKB w (duo (.bool na) (.slice aa xa.length ca)) (duo (.bool nb) (.slice ab xb.length cb)) zbox;rw [hW0] at b0 sz0;have pa : Duo W0 (w.heap.size) (.bool na) (.slice aa xa.length ca) := by rw [← hW0];exact zAA (zAA (zCA (by simp)) _) _
 have pb : Duo W0 (w.heap.size + 1) (.bool nb) (.slice ab xb.length cb) := by rw [← hW0];exact zAA (zCA (by simp)) _
 have r0 : Duo W0 (w.heap.size + 1 + 1) (.bool false) (.slice none 0 0) := by rw [← hW0];exact zCA (by simp)
 have Pa := hid pa;have ia0 := pa.c0;have ia1 := pa.c1;have Za := hid (za0.now b0);have Sa := hid (sa.now b0);have Pb := hid pb;have ib0 := pb.c0;have ib1 := pb.c1;have Zb := hid (zb0.now b0);have Sb := hid (sb.now b0);have R0 := hid r0;have EW := hid hW0;have G := hid b0;clear b0 hW0 za0 sa pa zb0 sb pb r0;have q0 : ((0 : Int) != 0) = false := rfl;have HS : Hid (∀ (w' : World) (v : Value),Zi w' v (A.tmod B) ka → _) := fun w' v h => zGB h hk
 rw [show cmpI (A.tmod B) 0 = 0 by rw [hr];exact cmpI_self 0] at HS;clear ea eb hr;go_enter Tryz.func70,Tryz.ntmps70;go_wp2_with fail;rw [EW.out];clear ia0 ia1 ib0 ib1;refine (zuB Za.out Zb.out hB hk hl).mono ?_;rintro e w1 ⟨rq,rr,rfl,m1,m2,b⟩;obtain ⟨n1,x1,a1,q1,rfl,-,-,-,-,-⟩ := id m1;obtain ⟨n2,x2,a2,q2,rfl,-,-,-,-,-⟩ := id m2;obtain ⟨W1,hW1⟩ : ∃ W1,(w1.alloc (duo (.bool n1) (.slice a1 x1.length q1))).alloc (duo (.bool n2) (.slice a2 x2.length q2)) = W1 := ⟨_,rfl⟩
 obtain ⟨kW,sz1⟩ := zXA w1 (duo (.bool n1) (.slice a1 x1.length q1)) (duo (.bool n2) (.slice a2 x2.length q2));rw [hW1] at kW sz1;have lw := b.size;have d1 : Duo W1 w1.heap.size (.bool n1) (.slice a1 x1.length q1) := by rw [← hW1];exact zAA (zCA rfl) _
 have d2 : Duo W1 (w1.heap.size + 1) (.bool n2) (.slice a2 x2.length q2) := by rw [← hW1];exact zCA (by simp)
 replace b := below_step b kW;replace R0 := hid (R0.out.step b);replace G := hid (below_step G.out b);have Z1 := hid (m1.now kW);have Z2 := hid (m2.now kW);have P1 := hid d1;have P2 := hid d2;have EW1 := hid hW1;clear b m1 m2 kW;have j1 := d2.c0;have j2 := d2.c1;rw [← hW1] at j1 j2;clear hW1 d1 d2;go_wp2_with fail;rw [EW1.out];clear j1 j2;refine (HS.out _ _ Z2.out.zi).mono ?_;rintro e w2 ⟨rfl,b⟩;replace R0 := hid (R0.out.step b);replace G := hid (below_step G.out b);replace Z1 := hid (Z1.out.now b);replace P1 := hid (P1.out.step b);have j1 := P1.out.c0;have j2 := P1.out.c1;clear b;have y00 := R0.out.c0;have y01 := R0.out.c1;have f00 := R0.out.fz 0;have f01 := R0.out.fz 1;go_wp2;exact bodyPost_ret (zWA Tryz.results70 (R0.out.set _ _) _ (by rfl) (by rfl)) rfl (zrA (B := W0.heap.size) Z1.out G.out (by omega) (by omega))
theorem rexact_no {w : World} {va vb : Value} {A B : Int} {ka kb : Nat} (ha : Zi w va A ka) (hb : Zi w vb B kb) (hB : B ≠ 0) (hk : ka ≤ 1099511627776) (hl : kb ≤ 1099511627776) (hr : A.tmod B ≠ 0) :
  Calls Tryz.prog 70 #[va,vb] w (zMA 8 w 0 ka) := by
 have za0 := ha;obtain ⟨na,xa,aa,ca,rfl,sa,ea,la⟩ := ha;have zb0 := hb;obtain ⟨nb,xb,ab,cb,rfl,sb,eb,lb⟩ := hb;obtain ⟨W0,hW0⟩ : ∃ W0,((w.alloc (duo (.bool na) (.slice aa xa.length ca))).alloc (duo (.bool nb) (.slice ab xb.length cb))).alloc zbox = W0 := ⟨_,rfl⟩
 obtain ⟨b0,sz0⟩ := zKB w (duo (.bool na) (.slice aa xa.length ca)) (duo (.bool nb) (.slice ab xb.length cb)) zbox;rw [hW0] at b0 sz0;have pa : Duo W0 (w.heap.size) (.bool na) (.slice aa xa.length ca) := by rw [← hW0];exact zAA (zAA (zCA (by simp)) _) _
 have pb : Duo W0 (w.heap.size + 1) (.bool nb) (.slice ab xb.length cb) := by rw [← hW0];exact zAA (zCA (by simp)) _
 have r0 : Duo W0 (w.heap.size + 1 + 1) (.bool false) (.slice none 0 0) := by rw [← hW0];exact zCA (by simp)
 have Pa := hid pa;have ia0 := pa.c0;have ia1 := pa.c1;have Za := hid (za0.now b0);have Sa := hid (sa.now b0);have Pb := hid pb;have ib0 := pb.c0;have ib1 := pb.c1;have Zb := hid (zb0.now b0);have Sb := hid (sb.now b0);have R0 := hid r0;have EW := hid hW0;have G := hid b0;clear b0 hW0 za0 sa pa zb0 sb pb r0;have q0 : ((0 : Int) != 0) = false := rfl;have HS : Hid (∀ (w' : World) (v : Value),Zi w' v (A.tmod B) ka → _) := fun w' v h => zGB h hk
 have hs : cmpI (A.tmod B) 0 ≠ 0 := fun e => hr (cmpI_zero e)
 generalize cmpI (A.tmod B) 0 = C at *;have q1 : (C != 0) = true := by simp [hs]
 clear ea eb hr;go_enter Tryz.func70,Tryz.ntmps70;go_wp2_with fail;rw [EW.out];clear ia0 ia1 ib0 ib1;refine (zuB Za.out Zb.out hB hk hl).mono ?_;rintro e w1 ⟨rq,rr,rfl,m1,m2,b⟩;obtain ⟨n1,x1,a1,q1,rfl,-,-,-,-,-⟩ := id m1;obtain ⟨n2,x2,a2,q2,rfl,-,-,-,-,-⟩ := id m2;obtain ⟨W1,hW1⟩ : ∃ W1,(w1.alloc (duo (.bool n1) (.slice a1 x1.length q1))).alloc (duo (.bool n2) (.slice a2 x2.length q2)) = W1 := ⟨_,rfl⟩
 obtain ⟨kW,sz1⟩ := zXA w1 (duo (.bool n1) (.slice a1 x1.length q1)) (duo (.bool n2) (.slice a2 x2.length q2));rw [hW1] at kW sz1;have lw := b.size;have d1 : Duo W1 w1.heap.size (.bool n1) (.slice a1 x1.length q1) := by rw [← hW1];exact zAA (zCA rfl) _
 have d2 : Duo W1 (w1.heap.size + 1) (.bool n2) (.slice a2 x2.length q2) := by rw [← hW1];exact zCA (by simp)
 replace b := below_step b kW;replace R0 := hid (R0.out.step b);replace G := hid (below_step G.out b);have Z1 := hid (m1.now kW);have Z2 := hid (m2.now kW);have P1 := hid d1;have P2 := hid d2;have EW1 := hid hW1;clear b m1 m2 kW;have j1 := d2.c0;have j2 := d2.c1;rw [← hW1] at j1 j2;clear hW1 d1 d2;go_wp2_with fail;rw [EW1.out];clear j1 j2;refine (HS.out _ _ Z2.out.zi).mono ?_;rintro e w2 ⟨rfl,b⟩;replace R0 := hid (R0.out.step b);replace G := hid (below_step G.out b);replace Z1 := hid (Z1.out.now b);replace P1 := hid (P1.out.step b);have j1 := P1.out.c0;have j2 := P1.out.c1;clear b;have y00 := R0.out.c0;have y01 := R0.out.c1;have f00 := R0.out.fz 0;have f01 := R0.out.fz 1;go_wp2;exact bodyPost_ret (zWA Tryz.results70 (R0.out.set _ _) _ (by rfl) (by rfl)) rfl (zrA (B := W0.heap.size) (zLA _ _ _) G.out (by omega) (by omega))
end Go.Proofs.YtkdobgbicnemcaaGreatDoor
