/-
 QRPureToR5Add: RPure, RPow, RSub, R5Add, joined.
-/
import Derived.Test.YtkdobgbicnemcaaGreatDoorQExactToR5Div
import Derived.Test.YtkdobgbicnemcaaGreatDoorQSplitToRDigits
import Derived.Test.YtkdobgbicnemcaaGreatDoorQRWordsToR5Ones

set_option maxRecDepth 100000
set_option maxHeartbeats 6400000
set_option linter.unusedVariables false
set_option linter.unusedSimpArgs false
namespace Go.Proofs.YtkdobgbicnemcaaGreatDoor
open Go.RowKit
def Told2 (w : World) (s : Int) (e : Ending) (w' : World) : Prop := ∃ zs r,e = .returned (.tuple #[r,.int .i64 0]) ∧ Own w.heap.size w' r zs ∧ zHA zs ∧ val zs = s ∧ Below w.heap.size w w'
theorem rsub_no {w : World} {v u : Value} {xs ys : List Int} (h : Sl w.heap.size w v xs) (h' : Sl w.heap.size w u ys) (hlen : xs.length ≤ 1099511627776) (hlen' : ys.length ≤ 1099511627776) (hlt : val xs < val ys) :
  Calls Tryz.prog 64 #[v,u] w fun e w' => e = .returned (.tuple #[.slice none 0 0,.int .i64 3]) ∧ Below w.heap.size w w' := by
 have hneg := zAC hlt;go_enter Tryz.func64,Tryz.ntmps64;go_wp2_with fail;refine (zLB h (by omega)).mono ?_;rintro e w1 ⟨X,rx,rfl,hs,hcx,hvx,hlx,hb⟩;have h1 := h'.now hb;have HVX := hid hvx;clear hvx h h';go_wp2_with fail;refine (zLB h1 (by omega)).mono ?_;rintro e w2 ⟨Y,ry,rfl,hsy,hcy,hvy,hly,hb2⟩;have hsx := hs.now hb2;have HVY := hid hvy;have hb12 := hid (below_step hb hb2);clear hvy h1 hs hb hb2;go_wp2_with fail;refine (ziD hsx hsy hcx hcy).mono ?_;rintro e w3 ⟨rfl,n,rfl⟩;rw [HVX.out,HVY.out];generalize cmpI (val xs) (val ys) = C at *;clear hsx hsy hcx hcy hlt;go_wp2;go_ret2;exact ⟨rfl,below_drewN hb12.out n⟩
theorem zuG {w : World} {v u : Value} {xs ys : List Int} (h : Sl w.heap.size w v xs) (h' : Sl w.heap.size w u ys) (hlen : xs.length ≤ 1099511627776) (hlen' : ys.length ≤ 1099511627776) (hge : val ys ≤ val xs) :
  Calls Tryz.prog 64 #[v,u] w (Told2 w (val xs - val ys)) := by
 have hneg := zxA hge;have HGE := hid hge;go_enter Tryz.func64,Tryz.ntmps64;go_wp2_with fail;refine (zLB h (by omega)).mono ?_;rintro e w1 ⟨X,rx,rfl,hs,hcx,hvx,hlx,hb⟩;have h1 := h'.now hb;have HVX := hid hvx;clear hvx h h';go_wp2_with fail;refine (zLB h1 (by omega)).mono ?_;rintro e w2 ⟨Y,ry,rfl,hsy,hcy,hvy,hly,hb2⟩;have hsx := hs.now hb2;have HVY := hid hvy;have hb12 := hid (below_step hb hb2);clear hvy h1 hs hb hb2;go_wp2_with fail;refine (ziD hsx hsy hcx hcy).mono ?_;rintro e w3 ⟨rfl,n3,rfl⟩;rw [HVX.out,HVY.out];generalize cmpI (val xs) (val ys) = C at *;have hb13 := hid (below_drewN hb12.out n3);have hX : SlI (w2.drewN n3).heap.size (w2.drewN n3) rx X := hsx.now (below_drewN (Below.refl _ _) n3);have hY : SlI (w2.drewN n3).heap.size (w2.drewN n3) ry Y := hsy.now (below_drewN (Below.refl _ _) n3);have HWW : Hid (Y.length ≤ X.length) := by
  unfold Hid
  by_cases q : X.length < Y.length
  ·have := zQC hcx.1 hcy.1 (by rw [hcx.2,hcy.2];exact q)
   rw [HVX.out,HVY.out] at this;omega
  ·omega
 clear hsx hsy hge hb12;generalize w2.drewN n3 = w3 at *;obtain ⟨hxi,ax,capx,rfl,hlcx,hcmx,hmx⟩ := id hX;obtain ⟨-,ay,capy,rfl,-,-,-⟩ := id hY;have HM := hid hmx;have HY := hid hY;have HCX := hid hcx.1;have HCY := hid hcy.1;clear hX hY hcx hcy hmx hxi;obtain ⟨n,hn⟩ : ∃ n,n = X.length := ⟨_,rfl⟩
 have hn3 : n ≤ 4398046511104 := by omega
 have HZ := hid (zcH n);rw [← hn] at hlcx;rw [← hn];have HN := hid hn;clear hn;go_wp2_with (at_make;refine zfA _ rfl _ _ rfl _ _ n n rfl rfl (by omega) (by omega) (Nat.le_refl _) (by omega) ?_)
 intro w4 hrow hb4 hsz4;have hhs : w3.heap.size < w4.heap.size := by have := hsz4.out;omega
 have HV0 : Hid (dval (List.replicate n 0) - dpw 0 * 0 = dval (X.take 0) - dval (Y.take 0)) := by unfold Hid;rw [HZ.out.2];simp [dval]
 clear hsz4;go_wp2_with fail
 go_loopw [9,10] (fun c i wr => ∃ (k : Nat) (zs : List Int) (cc : Int),k ≤ n ∧ i = .int .i64 k ∧ c = .int .i64 cc ∧ 0 ≤ cc ∧ cc ≤ 1 ∧ Hid (zs.length = n) ∧ Hid (DF zs) ∧ Hid (∀ j (h : j < zs.length),k ≤ j → zs[j] = 0) ∧
   Hid (dval zs - dpw k * cc = dval (X.take k) - dval (Y.take k)) ∧ RowI wr w3.heap.size (wi zs) ∧ Below w3.heap.size w3 wr ∧ w3.heap.size < wr.heap.size) (fun _ i _ => n - (intOf i).toNat)
 case atStart => exact ⟨0,_,0,Nat.zero_le _,rfl,rfl,by omega,by omega,(by unfold Hid;simp),HZ.out.1,(fun j h _ => by simp),HV0,hrow,hb4,hhs⟩
 case round =>
  clear HV0 hrow hb4 hhs HZ;obtain ⟨k,zs,cc,hk,rfl,rfl,hc0,hc1,HL,HD,HZ,HV,hr,hb,hhs⟩ := hrel
  by_cases hkn : k < n
  ·have hk1 : k < zs.length := by have := HL.out;omega
   have hkX : k < X.length := by have := HN.out;omega
   have hz0 : zs[k] = 0 := HZ.out k hk1 (Nat.le_refl _);have hx := zvF HCX.out k;have hy := zvF HCY.out k;have HTX := hid (zpC X k);have HTY := hid (zpC Y k);have HAY := hid (fun q => zKI (HY.out.below (below_drewN hb q)) k);rcases HM.out with e | ⟨b,off,rfl,hbg,hc⟩
   ·subst e;simp at hkX
   have cx : wr.cell? ⟨b,off + k,none⟩ = some (.int .i64 (X.getD k 0)) := by
    rw [show X.getD k 0 = X[k] by simp [hkX]];exact (hb.cell (p := ⟨b,off + k,none⟩) hbg).trans (hc k hkX)
   have cf : wr.frozen? ⟨w3.heap.size,k,none⟩ = false := hr.frozen _;have c1 : wr.cell? ⟨w3.heap.size,k,none⟩ = some (.int .i64 zs[k]) := RowI.num (r := []) (by simpa using hr) hk1;generalize X.getD k 0 = x at *;generalize Y.getD k 0 = y at *;obtain ⟨hx0,hx1⟩ := hx;obtain ⟨hy0,hy1⟩ := hy;have i0 : (0 : Int) ≤ (k : Int) := by omega
   have i1 : (k : Int) < (n : Int) := by omega
   have hwr1 : IntKind.i64.wrap (x - y) = x - y := zYA (by omega) (by omega);have hwr2 : IntKind.i64.wrap (x - y - cc) = x - y - cc := zYA (by omega) (by omega);clear hc hkX;have fin : ∀ (s d : Int),0 ≤ s → s ≤ 65535 → 0 ≤ d → d ≤ 1 → s - 65536 * d = x - y - cc → ∀ q,(∃ zs' : List Int,Hid (zs'.length = n) ∧ Hid (DF zs') ∧ Hid (∀ j (h : j < zs'.length),k + 1 ≤ j → zs'[j] = 0) ∧
     Hid (dval zs' - dpw (k + 1) * d = dval (X.take (k + 1)) - dval (Y.take (k + 1))) ∧ RowI ((wr.drewN q).setCell ⟨w3.heap.size,k,none⟩ (.int .i64 s)) w3.heap.size (wi zs') ∧ Below w3.heap.size w3 ((wr.drewN q).setCell ⟨w3.heap.size,k,none⟩ (.int .i64 s)) ∧ w3.heap.size < ((wr.drewN q).setCell ⟨w3.heap.size,k,none⟩ (.int .i64 s)).heap.size) := by
    intro s d hs0 hs1 hd0 hd1 he q;have HR := RowI.setNum (r := []) (by simpa using (show RowI (wr.drewN q) w3.heap.size (wi zs) from hr)) hk1 s;refine ⟨zs.set k s,?_,HD.out.set k (by unfold IsD dwB;omega),fun j h hj => ?_,?_,by simpa using HR,(below_drewN hb q).setCell (p := ⟨w3.heap.size,k,none⟩) (Nat.le_refl _) _,by simpa using hhs⟩
    ·unfold Hid;rw [List.length_set];exact HL.out
    ·rw [List.getElem_set_ne (by omega)];exact HZ.out j (by simpa using h) (by omega)
    ·have q1 := dborrow_step (xs := []) (ysT := dval (Y.take k) - dval (X.take k)) (ysT' := dval (Y.take (k + 1)) - dval (X.take (k + 1))) (p := dpw (k + 1)) (y := y - x) (s := s) (d := d) (c := cc) hk1 (by rw [HV.out];simp [dval];omega) (by rw [HTX.out,HTY.out,Int.sub_mul];omega) (by rw [hz0];unfold dwB;omega) rfl
     unfold Hid;rw [q1];simp [dval];omega
   have FIN := hid fin;clear fin hr hb HL HD HZ HV hhs;generalize zs[k] = z at *
   by_cases hsn : x - y - cc < 0
   ·go_wp2_with fail
    go_quiet ((go_at_call 100;exact Calls.quiet_of_same (HAY.out _)));go_wp2;obtain ⟨zs',f1,f2,f3,f4,f5,f6,f7⟩ := FIN.out (x - y - cc + 65536) 1 (by omega) (by omega) (by omega) (by omega) (by omega) nq;go_roundw
    case rel => exact ⟨k + 1,zs',1,by omega,by go_num,rfl,by omega,by omega,f1,f2,f3,f4,f5,f6,f7⟩
    case measure => simp [intOf];omega
   ·go_wp2_with fail
    go_quiet ((go_at_call 100;exact Calls.quiet_of_same (HAY.out _)));go_wp2;obtain ⟨zs',f1,f2,f3,f4,f5,f6,f7⟩ := FIN.out (x - y - cc) 0 (by omega) (by omega) (by omega) (by omega) (by omega) nq;go_roundw
    case rel => exact ⟨k + 1,zs',0,by omega,by go_num,rfl,by omega,by omega,f1,f2,f3,f4,f5,f6,f7⟩
    case measure => simp [intOf];omega
  ·obtain rfl : k = n := by omega
   have hv : dval zs - dpw k * cc = dval X - dval Y := by
    have q := HV.out
    rwa [List.take_of_length_le (by have := HN.out;omega),List.take_of_length_le (by have := HN.out;have := HWW.out;omega)] at q
   have hcc : cc = 0 := by
    have h1 := zcF HD.out;rw [HL.out] at h1;have h2 := HGE.out;rw [← HVX.out,← HVY.out] at h2
    by_cases q : cc = 0
    ·exact q
    ·have : cc = 1 := by omega
     rw [this] at hv;omega
   have HV' : Hid (dval zs = val xs - val ys) := by unfold Hid;rw [hcc] at hv;rw [← HVX.out,← HVY.out];omega
   have hsz := RowI.sl (r := []) (by simpa using hr) (zXF HD.out) (cap := k) (by rw [HL.out];exact Nat.le_refl _) (by omega) hhs;rw [HL.out] at hsz;have HJ := hid (zsF hsz HD.out);have HBB := hid (below_step hb13.out hb);clear hsz hr hb hv hcc HV HL;go_wp2_with fail;refine HJ.out.mono ?_;rintro e w5 ⟨qs,q,rfl,ho,hcz,hvz,hb5⟩;have HVZ := hid hvz;clear hvz;go_wp2;go_ret2;exact ⟨qs,q,rfl,ho.from HBB.out.size,hcz,by rw [HVZ.out,HV'.out],below_step HBB.out hb5⟩
theorem zxC {w : World} {va vb : Value} {A B : Int} {ka kb : Nat} (ha : Zi w va A ka) (hb : Zi w vb B kb) (hk : ka ≤ 1099511627776) (hl : kb ≤ 1099511627776) :
  Calls Tryz.prog 30 #[va,vb] w (zOA w (A + B) (max ka kb + 1)) := by
 have za0 := ha;obtain ⟨na,xa,aa,ca,rfl,sa,ea,la⟩ := ha;have zb0 := hb;obtain ⟨nb,xb,ab,cb,rfl,sb,eb,lb⟩ := hb;obtain ⟨W0,hW0⟩ : ∃ W0,((w.alloc (duo (.bool na) (.slice aa xa.length ca))).alloc (duo (.bool nb) (.slice ab xb.length cb))).alloc zbox = W0 := ⟨_,rfl⟩
 obtain ⟨b0,sz0⟩ := zKB w (duo (.bool na) (.slice aa xa.length ca)) (duo (.bool nb) (.slice ab xb.length cb)) zbox;rw [hW0] at b0 sz0;have pa : Duo W0 (w.heap.size) (.bool na) (.slice aa xa.length ca) := by rw [← hW0];exact zAA (zAA (zCA (by simp)) _) _
 have pb : Duo W0 (w.heap.size + 1) (.bool nb) (.slice ab xb.length cb) := by rw [← hW0];exact zAA (zCA (by simp)) _
 have r0 : Duo W0 (w.heap.size + 1 + 1) (.bool false) (.slice none 0 0) := by rw [← hW0];exact zCA (by simp)
 have Pa := hid pa;have ia0 := pa.c0;have ia1 := pa.c1;have Za := hid (za0.now b0);have Sa := hid (sa.now b0);have Pb := hid pb;have ib0 := pb.c0;have ib1 := pb.c1;have Zb := hid (zb0.now b0);have Sb := hid (sb.now b0);have R0 := hid r0;have EW := hid hW0;have G := hid b0;clear b0 hW0 za0 sa pa zb0 sb pb r0;have hxa := hid Sa.out.1;have hxb := hid Sb.out.1;have va0 := hid (zEA Sa.out.1);have vb0 := hid (zEA Sb.out.1)
 by_cases hnm : na = nb
 ·have hq : (na == nb) = true := by simp [hnm]
  have HV : Hid (∀ zs,val zs = val xa + val xb → iv na zs = A + B) := fun zs e => by
   rw [← ea,← eb];subst hnm;cases na <;> simp [iv,e] <;> omega
  have HLt : Hid (val xa + val xb < pw (max xa.length xb.length + 1)) := by
   have h1 := zUA hxa.out;have h2 := zUA hxb.out;have h3 := zmI (show xa.length ≤ max xa.length xb.length by omega);have h4 := zmI (show xb.length ≤ max xa.length xb.length by omega);unfold Hid;rw [pw,show wB = 18446744073709551616 from rfl];have := zVB (max xa.length xb.length);omega
  clear ea eb hnm;go_enter Tryz.func30,Tryz.ntmps30;go_wp2_with fail;rw [EW.out];clear ia0 ia1 ib0 ib1;refine (radd_any Sa.out Sb.out (by omega) (by omega)).mono ?_;rintro e w1 ⟨zs,r,rfl,ho,hc,hv,b⟩;obtain ⟨az,cz,rfl⟩ := ho.form;have hk1 : zs.length ≤ max xa.length xb.length + 1 := zSA hc (by rw [hv];exact HLt.out);have HM := hid ho.sl;have lw := b.size;have EV := hid (HV.out zs hv);replace Pa := hid (Pa.out.step b);have ia0 := Pa.out.c0;have ia1 := Pa.out.c1;replace Pb := hid (Pb.out.step b);have ib0 := Pb.out.c0;have ib1 := Pb.out.c1;replace R0 := hid (R0.out.step b);replace G := hid (below_step G.out b);clear b ho hc hv HV HLt;have HL : Hid (Calls Tryz.prog 61 #[.bool na,.slice az zs.length cz] w1 (zOA w1 (A + B) zs.length)) := by
   unfold Hid;have q := znB (n := na) HM.out (by omega);rw [EV.out] at q;exact q
  go_wp2_with fail;clear ia0 ia1 ib0 ib1;refine (HL.out).mono ?_;rintro e w2 ⟨r,rfl,m2,b⟩;obtain ⟨n2,x2,a2,q2,rfl,-,-,-,-,-⟩ := id m2;replace R0 := hid (R0.out.step b);replace G := hid (below_step G.out b);have Z2 := hid ((m2.mono (B' := W0.heap.size) lw).more (l := max ka kb + 1) (by omega));clear b m2;have y00 := R0.out.c0;have y01 := R0.out.c1;have f00 := R0.out.fz 0;have f01 := R0.out.fz 1;go_wp2;exact bodyPost_ret (zBB Tryz.results30 (R0.out.set _ _) _ (by rfl)) rfl (zWB (B := W0.heap.size) Z2.out G.out (by omega) (by omega))
 ·have hq : (na == nb) = false := by simp [hnm]
  have HC : Hid (∀ w',Below W0.heap.size W0 w' → _) := fun w' h => zAH (Sa.out.now h) (Sb.out.now h) (by omega) (by omega)
  by_cases hge : val xb ≤ val xa
  ·have hcmp : 0 ≤ cmpI (val xa) (val xb) := by have := zxA hge;omega
   have HV : Hid (∀ zs,val zs = val xa - val xb → iv na zs = A + B) := fun zs e => by
    rw [← ea,← eb];cases na <;> cases nb <;> simp [iv,e] at hnm ⊢ <;> omega
   have HS : Hid (∀ w',Below W0.heap.size W0 w' → _) := fun w' h => zuG (Sa.out.now h) (Sb.out.now h) (by omega) (by omega) hge
   have HLt := hid (zUA hxa.out);generalize cmpI (val xa) (val xb) = C at *;clear ea eb hnm hge;go_enter Tryz.func30,Tryz.ntmps30;go_wp2_with fail;rw [EW.out];clear ia0 ia1 ib0 ib1;refine (HC.out W0 (Below.refl _ _)).mono ?_;rintro e w1 ⟨rfl,b⟩;have B1 := hid b;replace Pa := hid (Pa.out.step b);have ia0 := Pa.out.c0;have ia1 := Pa.out.c1;replace Pb := hid (Pb.out.step b);have ib0 := Pb.out.c0;have ib1 := Pb.out.c1;replace R0 := hid (R0.out.step b);replace G := hid (below_step G.out b);clear b;go_wp2_with fail;refine (HS.out w1 B1.out).mono ?_;rintro e w2 ⟨zs,r,rfl,ho,hc,hv,b⟩;obtain ⟨az,cz,rfl⟩ := ho.form;have hk1 : zs.length ≤ xa.length := zSA hc (by rw [hv];have h1 := va0.out;have h2 := vb0.out;have h3 := HLt.out;omega);have HM := hid ho.sl;have lw := Nat.le_trans B1.out.size b.size;have EV := hid (HV.out zs hv);clear ia0 ia1 ib0 ib1;replace Pa := hid (Pa.out.step b);have ia0 := Pa.out.c0;have ia1 := Pa.out.c1;replace Pb := hid (Pb.out.step b);have ib0 := Pb.out.c0;have ib1 := Pb.out.c1;replace R0 := hid (R0.out.step b);replace G := hid (below_step G.out b);clear b ho hc hv HV HLt;have HL : Hid (Calls Tryz.prog 61 #[.bool na,.slice az zs.length cz] w2 (zOA w2 (A + B) zs.length)) := by
    unfold Hid;have q := znB (n := na) HM.out (by omega);rw [EV.out] at q;exact q
   go_wp2_with fail;clear ia0 ia1 ib0 ib1;refine (HL.out).mono ?_;rintro e w3 ⟨r,rfl,m3,b⟩;obtain ⟨n3,x3,a3,q3,rfl,-,-,-,-,-⟩ := id m3;replace R0 := hid (R0.out.step b);replace G := hid (below_step G.out b);have Z3 := hid ((m3.mono (B' := W0.heap.size) lw).more (l := max ka kb + 1) (by omega));clear b m3;have y00 := R0.out.c0;have y01 := R0.out.c1;have f00 := R0.out.fz 0;have f01 := R0.out.fz 1;go_wp2;exact bodyPost_ret (zBB Tryz.results30 (R0.out.set _ _) _ (by rfl)) rfl (zWB (B := W0.heap.size) Z3.out G.out (by omega) (by omega))
  ·have hcmp : ¬ 0 ≤ cmpI (val xa) (val xb) := by have := zAC (Int.lt_of_not_ge hge);omega
   have HV : Hid (∀ zs,val zs = val xb - val xa → iv nb zs = A + B) := fun zs e => by
    rw [← ea,← eb];cases na <;> cases nb <;> simp [iv,e] at hnm ⊢ <;> omega
   have HS : Hid (∀ w',Below W0.heap.size W0 w' → _) := fun w' h => zuG (Sb.out.now h) (Sa.out.now h) (by omega) (by omega) (by omega)
   have HLt := hid (zUA hxb.out);generalize cmpI (val xa) (val xb) = C at *;clear ea eb hnm hge;go_enter Tryz.func30,Tryz.ntmps30;go_wp2_with fail;rw [EW.out];clear ia0 ia1 ib0 ib1;refine (HC.out W0 (Below.refl _ _)).mono ?_;rintro e w1 ⟨rfl,b⟩;have B1 := hid b;replace Pa := hid (Pa.out.step b);have ia0 := Pa.out.c0;have ia1 := Pa.out.c1;replace Pb := hid (Pb.out.step b);have ib0 := Pb.out.c0;have ib1 := Pb.out.c1;replace R0 := hid (R0.out.step b);replace G := hid (below_step G.out b);clear b;go_wp2_with fail;refine (HS.out w1 B1.out).mono ?_;rintro e w2 ⟨zs,r,rfl,ho,hc,hv,b⟩;obtain ⟨az,cz,rfl⟩ := ho.form;have hk1 : zs.length ≤ xb.length := zSA hc (by rw [hv];have h1 := va0.out;have h2 := vb0.out;have h3 := HLt.out;omega);have HM := hid ho.sl;have lw := Nat.le_trans B1.out.size b.size;have EV := hid (HV.out zs hv);clear ia0 ia1 ib0 ib1;replace Pa := hid (Pa.out.step b);have ia0 := Pa.out.c0;have ia1 := Pa.out.c1;replace Pb := hid (Pb.out.step b);have ib0 := Pb.out.c0;have ib1 := Pb.out.c1;replace R0 := hid (R0.out.step b);replace G := hid (below_step G.out b);clear b ho hc hv HV HLt;have HL : Hid (Calls Tryz.prog 61 #[.bool nb,.slice az zs.length cz] w2 (zOA w2 (A + B) zs.length)) := by
    unfold Hid;have q := znB (n := nb) HM.out (by omega);rw [EV.out] at q;exact q
   go_wp2_with fail;clear ia0 ia1 ib0 ib1;refine (HL.out).mono ?_;rintro e w3 ⟨r,rfl,m3,b⟩;obtain ⟨n3,x3,a3,q3,rfl,-,-,-,-,-⟩ := id m3;replace R0 := hid (R0.out.step b);replace G := hid (below_step G.out b);have Z3 := hid ((m3.mono (B' := W0.heap.size) lw).more (l := max ka kb + 1) (by omega));clear b m3;have y00 := R0.out.c0;have y01 := R0.out.c1;have f00 := R0.out.fz 0;have f01 := R0.out.fz 1;go_wp2;exact bodyPost_ret (zBB Tryz.results30 (R0.out.set _ _) _ (by rfl)) rfl (zWB (B := W0.heap.size) Z3.out G.out (by omega) (by omega))
theorem ztG {w : World} {va vb : Value} {A B : Int} {ka kb : Nat} (ha : Zi w va A ka) (hb : Zi w vb B kb) (hk : ka ≤ 1099511627776) (hl : kb ≤ 1099511627776) :
  Calls Tryz.prog 31 #[va,vb] w (zOA w (A - B) (max ka kb + 1)) := by
 have za0 := ha;obtain ⟨na,xa,aa,ca,rfl,sa,ea,la⟩ := ha;have zb0 := hb;obtain ⟨nb,xb,ab,cb,rfl,sb,eb,lb⟩ := hb;obtain ⟨W0,hW0⟩ : ∃ W0,((w.alloc (duo (.bool na) (.slice aa xa.length ca))).alloc (duo (.bool nb) (.slice ab xb.length cb))).alloc zbox = W0 := ⟨_,rfl⟩
 obtain ⟨b0,sz0⟩ := zKB w (duo (.bool na) (.slice aa xa.length ca)) (duo (.bool nb) (.slice ab xb.length cb)) zbox;rw [hW0] at b0 sz0;have pa : Duo W0 (w.heap.size) (.bool na) (.slice aa xa.length ca) := by rw [← hW0];exact zAA (zAA (zCA (by simp)) _) _
 have pb : Duo W0 (w.heap.size + 1) (.bool nb) (.slice ab xb.length cb) := by rw [← hW0];exact zAA (zCA (by simp)) _
 have r0 : Duo W0 (w.heap.size + 1 + 1) (.bool false) (.slice none 0 0) := by rw [← hW0];exact zCA (by simp)
 have Pa := hid pa;have ia0 := pa.c0;have ia1 := pa.c1;have Za := hid (za0.now b0);have Sa := hid (sa.now b0);have Pb := hid pb;have ib0 := pb.c0;have ib1 := pb.c1;have Zb := hid (zb0.now b0);have Sb := hid (sb.now b0);have R0 := hid r0;have EW := hid hW0;have G := hid b0;clear b0 hW0 za0 sa pa zb0 sb pb r0;have ZN : Hid (Zi W0 (.agg #[.bool (!nb),.slice ab xb.length cb]) (-B) kb) := ⟨!nb,xb,ab,cb,rfl,Sb.out,by rw [zLH,eb],lb⟩
 clear ea eb;have EA : Hid (A + -B = A - B) := by unfold Hid;omega
 go_enter Tryz.func31,Tryz.ntmps31;go_wp2_with fail;rw [EW.out];clear ia0 ia1 ib0 ib1;have HL := hid (zxC Za.out ZN.out hk hl);rw [EA.out] at HL;refine (HL.out).mono ?_;rintro e w1 ⟨r,rfl,m1,b⟩;obtain ⟨n1,x1,a1,q1,rfl,-,-,-,-,-⟩ := id m1;replace R0 := hid (R0.out.step b);replace G := hid (below_step G.out b);have Z1 := hid (m1);clear b m1;have y00 := R0.out.c0;have y01 := R0.out.c1;have f00 := R0.out.fz 0;have f01 := R0.out.fz 1;go_wp2;exact bodyPost_ret (zBB Tryz.results31 (R0.out.set _ _) _ (by rfl)) rfl (zWB (B := W0.heap.size) Z1.out G.out (by omega) (by omega))
theorem zCG {w : World} {va vb vc : Value} {A B C : Int} {ka kb kc : Nat} (ha : Zi w va A ka) (hb : Zi w vb B kb) (hc : Zi w vc C kc) (hk : ka + kb ≤ 1099511627776) (hl : kc ≤ 1099511627776) :
  Calls Tryz.prog 33 #[va,vb,vc] w (zOA w (A * B + C) (max (ka + kb) kc + 1)) := by
 have za0 := ha;obtain ⟨na,xa,aa,ca,rfl,sa,ea,la⟩ := ha;have zb0 := hb;obtain ⟨nb,xb,ab,cb,rfl,sb,eb,lb⟩ := hb;have zc0 := hc;obtain ⟨nc,xc,ac,cc,rfl,sc,ec,lc⟩ := hc;obtain ⟨W0,hW0⟩ : ∃ W0,(((w.alloc (duo (.bool na) (.slice aa xa.length ca))).alloc (duo (.bool nb) (.slice ab xb.length cb))).alloc (duo (.bool nc) (.slice ac xc.length cc))).alloc zbox = W0 := ⟨_,rfl⟩
 obtain ⟨b0,sz0⟩ := zNB w (duo (.bool na) (.slice aa xa.length ca)) (duo (.bool nb) (.slice ab xb.length cb)) (duo (.bool nc) (.slice ac xc.length cc)) zbox;rw [hW0] at b0 sz0;have pa : Duo W0 (w.heap.size) (.bool na) (.slice aa xa.length ca) := by rw [← hW0];exact zAA (zAA (zAA (zCA (by simp)) _) _) _
 have pb : Duo W0 (w.heap.size + 1) (.bool nb) (.slice ab xb.length cb) := by rw [← hW0];exact zAA (zAA (zCA (by simp)) _) _
 have pc : Duo W0 (w.heap.size + 1 + 1) (.bool nc) (.slice ac xc.length cc) := by rw [← hW0];exact zAA (zCA (by simp)) _
 have r0 : Duo W0 (w.heap.size + 1 + 1 + 1) (.bool false) (.slice none 0 0) := by rw [← hW0];exact zCA (by simp)
 have Pa := hid pa;have ia0 := pa.c0;have ia1 := pa.c1;have Za := hid (za0.now b0);have Sa := hid (sa.now b0);have Pb := hid pb;have ib0 := pb.c0;have ib1 := pb.c1;have Zb := hid (zb0.now b0);have Sb := hid (sb.now b0);have Pc := hid pc;have ic0 := pc.c0;have ic1 := pc.c1;have Zc := hid (zc0.now b0);have Sc := hid (sc.now b0);have R0 := hid r0;have EW := hid hW0;have G := hid b0;clear b0 hW0 za0 sa pa zb0 sb pb zc0 sc pc r0;clear ea eb ec;go_enter Tryz.func33,Tryz.ntmps33;go_wp2_with fail;rw [EW.out];clear ia0 ia1 ib0 ib1 ic0 ic1;refine (zcI Za.out Zb.out (by omega) (by omega)).mono ?_;rintro e w1 ⟨r,rfl,m1,b⟩;obtain ⟨n1,x1,a1,q1,rfl,-,-,-,-,-⟩ := id m1;obtain ⟨W1,hW1⟩ : ∃ W1,w1.alloc (duo (.bool n1) (.slice a1 x1.length q1)) = W1 := ⟨_,rfl⟩
 obtain ⟨kW,sz1⟩ := zEB w1 (duo (.bool n1) (.slice a1 x1.length q1));rw [hW1] at kW sz1;have lw := b.size;have j0 : Duo W1 w1.heap.size (.bool n1) (.slice a1 x1.length q1) := by rw [← hW1];exact zCA rfl
 replace b := below_step b kW;replace Zc := hid (Zc.out.now b);replace Pc := hid (Pc.out.step b);have ic0 := Pc.out.c0;have ic1 := Pc.out.c1;replace R0 := hid (R0.out.step b);replace G := hid (below_step G.out b);have Z1 := hid (m1.now kW);have j1 := j0.c0;have j2 := j0.c1;rw [← hW1] at j1 j2 ic0 ic1;have EW1 := hid hW1;clear b m1 kW hW1 j0;go_wp2_with fail;rw [EW1.out];clear j1 j2 ic0 ic1;refine (zxC Z1.out.zi Zc.out hk hl).mono ?_;rintro e w2 ⟨r,rfl,m2,b⟩;obtain ⟨n2,x2,a2,q2,rfl,-,-,-,-,-⟩ := id m2;replace R0 := hid (R0.out.step b);replace G := hid (below_step G.out b);have Z2 := hid (m2.mono (B' := W0.heap.size) (by omega));clear b m2;have y00 := R0.out.c0;have y01 := R0.out.c1;have f00 := R0.out.fz 0;have f01 := R0.out.fz 1;go_wp2;exact bodyPost_ret (zBB Tryz.results33 (R0.out.set _ _) _ (by rfl)) rfl (zWB (B := W0.heap.size) Z2.out G.out (by omega) (by omega))
end Go.Proofs.YtkdobgbicnemcaaGreatDoor
