/-
 QR5OnesToRSub: R5Ones, RAdd, RPure, RPow, RSub, joined.
-/
import Derived.Test.YtmnecbniappnaaaGreatQSplitToRDigits
import Derived.Test.YtmnecbniappnaaaGreatQRWordsToRMul

set_option maxRecDepth 100000
set_option maxHeartbeats 6400000
set_option linter.unusedVariables false
set_option linter.unusedSimpArgs false
namespace Go.Proofs.YtmnecbniappnaaaGreat
open Go.RowKit
theorem rleast_z {w : World} {va : Value} {A : Int} {ka : Nat} (ha : Zi w va A ka) (hk : ka ≤ 1099511627776) :
  Calls Tryz.prog 47 #[va] w (zkA w A ka) := by
 have za0 := ha;obtain ⟨na,xa,aa,ca,rfl,sa,ea,la⟩ := ha;obtain ⟨W0,hW0⟩ : ∃ W0,(w.alloc (duo (.bool na) (.slice aa xa.length ca))).alloc zbox = W0 := ⟨_,rfl⟩
 obtain ⟨b0,sz0⟩ := zYA w (duo (.bool na) (.slice aa xa.length ca)) zbox;rw [hW0] at b0 sz0;have pa : Duo W0 (w.heap.size) (.bool na) (.slice aa xa.length ca) := by rw [← hW0];exact zBA (zEA (by simp)) _
 have r0 : Duo W0 (w.heap.size + 1) (.bool false) (.slice none 0 0) := by rw [← hW0];exact zEA (by simp)
 have Pa := hid pa;have ia0 := pa.c0;have ia1 := pa.c1;have Za := hid (za0.now b0);have Sa := hid (sa.now b0);have R0 := hid r0;have EW := hid hW0;have G := hid b0;clear b0 hW0 za0 sa pa r0;have EV : Hid (iv na xa = A) := by
  unfold Hid;have hx := Sa.out.1;exact ea
 clear ea;have HL : Hid (Calls Tryz.prog 74 #[.bool na,.slice aa xa.length ca] W0 (zkA W0 A xa.length)) := by
  unfold Hid;have q := zpG (n := na) Sa.out (by omega);rw [EV.out] at q;exact q
 clear EV;go_enter Tryz.func47,Tryz.ntmps47;go_wp2_with fail;rw [EW.out];clear ia0 ia1;refine (HL.out).mono ?_;rintro e w1 ⟨r,rfl,m1,b⟩;obtain ⟨n1,x1,a1,q1,rfl,-,-,-,-,-⟩ := id m1;replace R0 := hid (R0.out.step b);replace G := hid (below_step G.out b);have Z1 := hid (m1.more la);clear b m1;have y00 := R0.out.c0;have y01 := R0.out.c1;have f00 := R0.out.fz 0;have f01 := R0.out.fz 1;go_wp2;exact bodyPost_ret (zNB Tryz.results47 (R0.out.set _ _) _ (by rfl)) rfl (zJC (B := W0.heap.size) Z1.out G.out (by omega) (by omega))
theorem rmul_z {w : World} {va vb : Value} {A B : Int} {ka kb : Nat} (ha : Zi w va A ka) (hb : Zi w vb B kb) (hk : ka ≤ 1099511627776) (hl : kb ≤ 1099511627776) :
  Calls Tryz.prog 49 #[va,vb] w (zkA w (A * B) (ka + kb)) := by
 have za0 := ha;obtain ⟨na,xa,aa,ca,rfl,sa,ea,la⟩ := ha;have zb0 := hb;obtain ⟨nb,xb,ab,cb,rfl,sb,eb,lb⟩ := hb;obtain ⟨W0,hW0⟩ : ∃ W0,((w.alloc (duo (.bool na) (.slice aa xa.length ca))).alloc (duo (.bool nb) (.slice ab xb.length cb))).alloc zbox = W0 := ⟨_,rfl⟩
 obtain ⟨b0,sz0⟩ := zKC w (duo (.bool na) (.slice aa xa.length ca)) (duo (.bool nb) (.slice ab xb.length cb)) zbox;rw [hW0] at b0 sz0;have pa : Duo W0 (w.heap.size) (.bool na) (.slice aa xa.length ca) := by rw [← hW0];exact zBA (zBA (zEA (by simp)) _) _
 have pb : Duo W0 (w.heap.size + 1) (.bool nb) (.slice ab xb.length cb) := by rw [← hW0];exact zBA (zEA (by simp)) _
 have r0 : Duo W0 (w.heap.size + 1 + 1) (.bool false) (.slice none 0 0) := by rw [← hW0];exact zEA (by simp)
 have Pa := hid pa;have ia0 := pa.c0;have ia1 := pa.c1;have Za := hid (za0.now b0);have Sa := hid (sa.now b0);have Pb := hid pb;have ib0 := pb.c0;have ib1 := pb.c1;have Zb := hid (zb0.now b0);have Sb := hid (sb.now b0);have R0 := hid r0;have EW := hid hW0;have G := hid b0;clear b0 hW0 za0 sa pa zb0 sb pb r0;have HV : Hid (∀ zs,val zs = val xa * val xb → iv (na != nb) zs = A * B) := fun zs e => by
  rw [← ea,← eb];cases na <;> cases nb <;> simp [iv,e,Int.mul_neg,Int.neg_mul]
 have HLt := hid (zeB Sa.out.1 Sb.out.1);clear ea eb;go_enter Tryz.func49,Tryz.ntmps49;go_wp2_with fail;rw [EW.out];clear ia0 ia1 ib0 ib1;refine (rmul_any Sa.out Sb.out (by omega) (by omega)).mono ?_;rintro e w1 ⟨zs,r,rfl,ho,hc,hv,b⟩;obtain ⟨az,cz,rfl⟩ := ho.form;have hk1 : zs.length ≤ xa.length + xb.length := zrA hc (by rw [hv];exact HLt.out);have HM := hid ho.sl;have lw := b.size;have EV := hid (HV.out zs hv);replace Pa := hid (Pa.out.step b);have ia0 := Pa.out.c0;have ia1 := Pa.out.c1;replace Pb := hid (Pb.out.step b);have ib0 := Pb.out.c0;have ib1 := Pb.out.c1;replace R0 := hid (R0.out.step b);replace G := hid (below_step G.out b);clear b ho hc hv HV HLt;go_wp2_with fail;clear ia0 ia1 ib0 ib1;have HL : Hid (Calls Tryz.prog 74 #[.bool (na != nb),.slice az zs.length cz] w1 (zkA w1 (A * B) zs.length)) := by
  unfold Hid;have q := zpG (n := na != nb) HM.out (by omega);rw [EV.out] at q;exact q
 refine (HL.out).mono ?_;rintro e w2 ⟨r,rfl,m2,b⟩;obtain ⟨n2,x2,a2,q2,rfl,-,-,-,-,-⟩ := id m2;replace R0 := hid (R0.out.step b);replace G := hid (below_step G.out b);have Z2 := hid ((m2.mono (B' := W0.heap.size) lw).more (l := ka + kb) (by omega));clear b m2;have y00 := R0.out.c0;have y01 := R0.out.c1;have f00 := R0.out.fz 0;have f01 := R0.out.fz 1;go_wp2;exact bodyPost_ret (zNB Tryz.results49 (R0.out.set _ _) _ (by rfl)) rfl (zJC (B := W0.heap.size) Z2.out G.out (by omega) (by omega))
theorem zxE {D : List Int} (h : DF D) (k : Nat) : 0 ≤ D.getD k 0 ∧ D.getD k 0 ≤ 65535 := by
 by_cases hk : k < D.length
 ·have hx := h.get hk
  unfold IsD dwB at hx;rw [show D.getD k 0 = D[k] by simp [hk]];omega
 ·rw [show D.getD k 0 = 0 by simp [show D.length ≤ k by omega]];omega
theorem zGC (D : List Int) (k : Nat) : dval (D.take (k + 1)) = dval (D.take k) + D.getD k 0 * dpw k := by
 by_cases hk : k < D.length
 ·rw [zcB D k hk,show D.getD k 0 = D[k] by simp [hk]]
 ·rw [show D.getD k 0 = 0 by simp [show D.length ≤ k by omega],List.take_of_length_le (by omega),List.take_of_length_le (by omega)];simp
theorem zdG (n : Nat) : DF (List.replicate n 0) ∧ dval (List.replicate n 0) = 0 := by
 have h : DF (List.replicate n 0) := fun x hx => by rw [List.eq_of_mem_replicate hx];unfold IsD dwB;omega
 refine ⟨h,?_⟩
 induction n with
 | zero => rfl
 | succ n ih => rw [List.replicate_succ,dval,ih (fun x hx => h x (by rw [List.replicate_succ];simp [hx]))];simp
theorem Own.from {B B' : Nat} {w : World} {v : Value} {zs : List Int} (h : Own B w v zs) (hB : B' ≤ B) : Own B' w v zs := by
 refine ⟨h.1,?_⟩;rcases h.2 with h1 | ⟨g,r',h1,h2,h3,h4⟩
 ·exact .inl h1
 ·exact .inr ⟨g,r',Nat.le_trans hB h1,h2,h3,h4⟩
theorem zTE {D : List Int} (h : DF D) : ∀ p ∈ D,-9223372036854775808 ≤ p ∧ p ≤ 9223372036854775807 := fun p hp => by have := h p hp;unfold IsD dwB at this;omega
theorem radd_any {w : World} {v u : Value} {xs ys : List Int} (h : Sl w.heap.size w v xs) (h' : Sl w.heap.size w u ys) (hlen : xs.length ≤ 1099511627776) (hlen' : ys.length ≤ 1099511627776) :
  Calls Tryz.prog 77 #[v,u] w (Told w (val xs + val ys)) := by
 go_enter Tryz.func77,Tryz.ntmps77;go_wp2_with fail;refine (zzA h (by omega)).mono ?_;rintro e w1 ⟨X,rx,rfl,hs,hcx,hvx,hlx,hb⟩;have h1 := h'.now hb;have HVX := hid hvx;clear hvx h h';go_wp2_with fail;refine (zzA h1 (by omega)).mono ?_;rintro e w2 ⟨Y,ry,rfl,hsy,hcy,hvy,hly,hb2⟩;have hsx := hs.now hb2;have HVY := hid hvy;have hb12 := hid (below_step hb hb2);clear hvy h1 hs hb hb2;have hX := hsx;have hY := hsy;obtain ⟨-,ax,capx,rfl,-,-,-⟩ := hsx;obtain ⟨-,ay,capy,rfl,-,-,-⟩ := hsy;have HX := hid hX;have HY := hid hY;have HCX := hid hcx.1;have HCY := hid hcy.1;clear hX hY hcx hcy;obtain ⟨n,hn⟩ : ∃ n,n = max X.length Y.length := ⟨_,rfl⟩
 have hn1 : X.length ≤ n := by omega
 have hn2 : Y.length ≤ n := by omega
 have hn3 : n ≤ 4398046511104 := by omega
 have HZ := hid (zdG (n + 1))
 by_cases hlt : (X.length : Int) < (Y.length : Int)
 focus
  obtain rfl : n = Y.length := by omega
  clear hn;go_wp2_with (at_make;refine zaA _ rfl _ _ rfl _ _ (Y.length + 1) (Y.length + 1) rfl rfl (by omega) (by omega) (Nat.le_refl _) (by omega) ?_)
  generalize hN : Y.length = n at *;have HNN : Hid (X.length ≤ n ∧ Y.length ≤ n) := ⟨by omega,by omega⟩
  clear hN
 rotate_left
 focus
  obtain rfl : n = X.length := by omega
  clear hn;go_wp2_with (at_make;refine zaA _ rfl _ _ rfl _ _ (X.length + 1) (X.length + 1) rfl rfl (by omega) (by omega) (Nat.le_refl _) (by omega) ?_)
  generalize hN : X.length = n at *;have HNN : Hid (X.length ≤ n ∧ Y.length ≤ n) := ⟨by omega,by omega⟩
  clear hN
 rotate_left
 all_goals
  intro w3 hrow hb3 hsz3;have hhs : w2.heap.size < w3.heap.size := by have := hsz3.out;omega
  have HV0 : Hid (dval (List.replicate (n + 1) 0) + dpw 0 * 0 = dval (X.take 0) + dval (Y.take 0)) := by unfold Hid;rw [HZ.out.2];simp [dval]
  clear hsz3;go_wp2_with fail
  go_loopw [9,10] (fun c i wr => ∃ (k : Nat) (zs : List Int) (cc : Int),k ≤ n ∧ i = .int .i64 k ∧ c = .int .i64 cc ∧ 0 ≤ cc ∧ cc ≤ 1 ∧ Hid (zs.length = n + 1) ∧ Hid (DF zs) ∧ Hid (∀ j (h : j < zs.length),k ≤ j → zs[j] = 0) ∧
    Hid (dval zs + dpw k * cc = dval (X.take k) + dval (Y.take k)) ∧ RowI wr w2.heap.size (wi zs) ∧ Below w2.heap.size w2 wr ∧ w2.heap.size < wr.heap.size) (fun _ i _ => n - (intOf i).toNat)
  case atStart => exact ⟨0,_,0,Nat.zero_le _,rfl,rfl,by omega,by omega,(by unfold Hid;simp),HZ.out.1,(fun j h _ => by simp),HV0,hrow,hb3,hhs⟩
  case round =>
   clear HV0 hrow hb3 hhs HZ;obtain ⟨k,zs,cc,hk,rfl,rfl,hc0,hc1,HL,HD,HZ,HV,hr,hb,hhs⟩ := hrel
   by_cases hkn : k < n
   ·have hk1 : k < zs.length := by have := HL.out;omega
    have hz0 : zs[k] = 0 := HZ.out k hk1 (Nat.le_refl _);have hx := zxE HCX.out k;have hy := zxE HCY.out k;have HTX := hid (zGC X k);have HTY := hid (zGC Y k);have HAX := hid (zEH (HX.out.below hb) k);have HAY := hid (zEH (HY.out.below hb) k);have cf : wr.frozen? ⟨w2.heap.size,k,none⟩ = false := hr.frozen _;have c1 : wr.cell? ⟨w2.heap.size,k,none⟩ = some (.int .i64 zs[k]) := RowI.num (r := []) (by simpa using hr) hk1;generalize X.getD k 0 = x at *;generalize Y.getD k 0 = y at *;obtain ⟨hx0,hx1⟩ := hx;obtain ⟨hy0,hy1⟩ := hy;have HR := RowI.setNum (r := []) (by simpa using hr) hk1 ((x + y + cc) % 65536);have HB := hb.setCell (p := ⟨w2.heap.size,k,none⟩) (Nat.le_refl _) (.int .i64 ((x + y + cc) % 65536));have HV' := hid (dcarry_step (xs := []) (ysT := dval (X.take k) + dval (Y.take k)) (ysT' := dval (X.take (k + 1)) + dval (Y.take (k + 1))) (p := dpw (k + 1)) (y := x + y) (s := (x + y + cc) % 65536) (d := (x + y + cc) / 65536) (c := cc) hk1 (by rw [HV.out];simp [dval]) (by rw [HTX.out,HTY.out,Int.add_mul];omega) (by rw [hz0];unfold dwB;omega) rfl);have HD' : Hid (DF (zs.set k ((x + y + cc) % 65536))) := HD.out.set k (by unfold IsD dwB;omega);have HZ' : Hid (∀ j (h : j < (zs.set k ((x + y + cc) % 65536)).length),k + 1 ≤ j → (zs.set k ((x + y + cc) % 65536))[j] = 0) := fun j h hj => by
     rw [List.getElem_set_ne (by omega)];exact HZ.out j (by simpa using h) (by omega)
    have HL' : Hid ((zs.set k ((x + y + cc) % 65536)).length = n + 1) := by unfold Hid;rw [List.length_set];exact HL.out
    have hhs' : w2.heap.size < (wr.setCell ⟨w2.heap.size,k,none⟩ (.int .i64 ((x + y + cc) % 65536))).heap.size := by simpa using hhs
    clear hr hb HL HD HZ HV hhs;generalize zs[k] = z at *;go_wp2_with fail;refine HAX.out.mono ?_;rintro e w4 ⟨rfl,rfl⟩;go_wp2_with fail;refine HAY.out.mono ?_;rintro e w5 ⟨rfl,rfl⟩;clear HAX HAY;go_wp2;go_roundw
    case rel => exact ⟨k + 1,_,_,by omega,by go_num,rfl,by omega,by omega,HL',HD',HZ',(by unfold Hid;simpa [dval] using HV'.out),(by simpa using HR),HB,hhs'⟩
    case measure => simp [intOf];omega
   ·obtain rfl : k = n := by omega
    have hk1 : k < zs.length := by have := HL.out;omega
    have hz0 : zs[k] = 0 := HZ.out k hk1 (Nat.le_refl _);have cf : wr.frozen? ⟨w2.heap.size,k,none⟩ = false := hr.frozen _;have c1 : wr.cell? ⟨w2.heap.size,k,none⟩ = some (.int .i64 zs[k]) := RowI.num (r := []) (by simpa using hr) hk1;have HR := RowI.setNum (r := []) (by simpa using hr) hk1 cc;have HB := hb.setCell (p := ⟨w2.heap.size,k,none⟩) (Nat.le_refl _) (.int .i64 cc);have HD' : Hid (DF (zs.set k cc)) := HD.out.set k (by unfold IsD dwB;omega);have HV' : Hid (dval (zs.set k cc) = val xs + val ys) := by
     unfold Hid;rw [zpB zs k cc hk1,hz0,← HVX.out,← HVY.out];have := HV.out;rw [List.take_of_length_le HNN.out.1,List.take_of_length_le HNN.out.2] at this;rw [Int.sub_zero,Int.mul_comm];exact this
    have HL' : Hid ((zs.set k cc).length = k + 1) := by unfold Hid;rw [List.length_set];exact HL.out
    have hhs' : w2.heap.size < (wr.setCell ⟨w2.heap.size,k,none⟩ (.int .i64 cc)).heap.size := by simpa using hhs
    clear hr hb HL HD HZ HV hhs;generalize zs.set k cc = Z at *;generalize zs[k] = z at *;have hR : RowI (wr.setCell ⟨w2.heap.size,k,none⟩ (.int .i64 cc)) w2.heap.size (wi Z) := by simpa using HR
    have hsz := RowI.sl (r := []) (by simpa using hR) (zTE HD'.out) (cap := k + 1) (by rw [HL'.out];exact Nat.le_refl _) (by omega) hhs';rw [HL'.out] at hsz;have HJ := hid (zrE hsz HD'.out);have HBB := hid (below_step hb12.out HB);clear hsz hR HR HB;go_wp2_with fail;refine HJ.out.mono ?_;rintro e w4 ⟨qs,q,rfl,ho,hcz,hvz,hb5⟩;have HVZ := hid hvz;clear hvz;go_wp2;go_ret;exact ⟨qs,q,rfl,ho.from HBB.out.size,hcz,by rw [HVZ.out,HV'.out],below_step HBB.out hb5⟩

def Told2 (w : World) (s : Int) (e : Ending) (w' : World) : Prop := ∃ zs r,e = .returned (.tuple #[r,.int .i64 0]) ∧ Own w.heap.size w' r zs ∧ zLA zs ∧ val zs = s ∧ Below w.heap.size w w'
theorem rsub_no {w : World} {v u : Value} {xs ys : List Int} (h : Sl w.heap.size w v xs) (h' : Sl w.heap.size w u ys) (hlen : xs.length ≤ 1099511627776) (hlen' : ys.length ≤ 1099511627776) (hlt : val xs < val ys) :
  Calls Tryz.prog 78 #[v,u] w fun e w' => e = .returned (.tuple #[.slice none 0 0,.int .i64 3]) ∧ Below w.heap.size w w' := by
 have hneg := zrB hlt;go_enter Tryz.func78,Tryz.ntmps78;go_wp2_with fail;refine (zzA h (by omega)).mono ?_;rintro e w1 ⟨X,rx,rfl,hs,hcx,hvx,hlx,hb⟩;have h1 := h'.now hb;have HVX := hid hvx;clear hvx h h';go_wp2_with fail;refine (zzA h1 (by omega)).mono ?_;rintro e w2 ⟨Y,ry,rfl,hsy,hcy,hvy,hly,hb2⟩;have hsx := hs.now hb2;have HVY := hid hvy;have hb12 := hid (below_step hb hb2);clear hvy h1 hs hb hb2;go_wp2_with fail;refine (zvC hsx hsy hcx hcy).mono ?_;rintro e w3 ⟨rfl,n,rfl⟩;rw [HVX.out,HVY.out];generalize cmpI (val xs) (val ys) = C at *;clear hsx hsy hcx hcy hlt;go_wp2;go_ret2;exact ⟨rfl,below_drewN hb12.out n⟩
theorem zCG {w : World} {v u : Value} {xs ys : List Int} (h : Sl w.heap.size w v xs) (h' : Sl w.heap.size w u ys) (hlen : xs.length ≤ 1099511627776) (hlen' : ys.length ≤ 1099511627776) (hge : val ys ≤ val xs) :
  Calls Tryz.prog 78 #[v,u] w (Told2 w (val xs - val ys)) := by
 have hneg := zxA hge;have HGE := hid hge;go_enter Tryz.func78,Tryz.ntmps78;go_wp2_with fail;refine (zzA h (by omega)).mono ?_;rintro e w1 ⟨X,rx,rfl,hs,hcx,hvx,hlx,hb⟩;have h1 := h'.now hb;have HVX := hid hvx;clear hvx h h';go_wp2_with fail;refine (zzA h1 (by omega)).mono ?_;rintro e w2 ⟨Y,ry,rfl,hsy,hcy,hvy,hly,hb2⟩;have hsx := hs.now hb2;have HVY := hid hvy;have hb12 := hid (below_step hb hb2);clear hvy h1 hs hb hb2;go_wp2_with fail;refine (zvC hsx hsy hcx hcy).mono ?_;rintro e w3 ⟨rfl,n3,rfl⟩;rw [HVX.out,HVY.out];generalize cmpI (val xs) (val ys) = C at *;have hb13 := hid (below_drewN hb12.out n3);have hX : SlI (w2.drewN n3).heap.size (w2.drewN n3) rx X := hsx.now (below_drewN (Below.refl _ _) n3);have hY : SlI (w2.drewN n3).heap.size (w2.drewN n3) ry Y := hsy.now (below_drewN (Below.refl _ _) n3);have HWW : Hid (Y.length ≤ X.length) := by
  unfold Hid
  by_cases q : X.length < Y.length
  ·have := zoB hcx.1 hcy.1 (by rw [hcx.2,hcy.2];exact q)
   rw [HVX.out,HVY.out] at this;omega
  ·omega
 clear hsx hsy hge hb12;generalize w2.drewN n3 = w3 at *;obtain ⟨hxi,ax,capx,rfl,hlcx,hcmx,hmx⟩ := id hX;obtain ⟨-,ay,capy,rfl,-,-,-⟩ := id hY;have HM := hid hmx;have HY := hid hY;have HCX := hid hcx.1;have HCY := hid hcy.1;clear hX hY hcx hcy hmx hxi;obtain ⟨n,hn⟩ : ∃ n,n = X.length := ⟨_,rfl⟩
 have hn3 : n ≤ 4398046511104 := by omega
 have HZ := hid (zdG n);rw [← hn] at hlcx;rw [← hn];have HN := hid hn;clear hn;go_wp2_with (at_make;refine zaA _ rfl _ _ rfl _ _ n n rfl rfl (by omega) (by omega) (Nat.le_refl _) (by omega) ?_)
 intro w4 hrow hb4 hsz4;have hhs : w3.heap.size < w4.heap.size := by have := hsz4.out;omega
 have HV0 : Hid (dval (List.replicate n 0) - dpw 0 * 0 = dval (X.take 0) - dval (Y.take 0)) := by unfold Hid;rw [HZ.out.2];simp [dval]
 clear hsz4;go_wp2_with fail
 go_loopw [9,10] (fun c i wr => ∃ (k : Nat) (zs : List Int) (cc : Int),k ≤ n ∧ i = .int .i64 k ∧ c = .int .i64 cc ∧ 0 ≤ cc ∧ cc ≤ 1 ∧ Hid (zs.length = n) ∧ Hid (DF zs) ∧ Hid (∀ j (h : j < zs.length),k ≤ j → zs[j] = 0) ∧
   Hid (dval zs - dpw k * cc = dval (X.take k) - dval (Y.take k)) ∧ RowI wr w3.heap.size (wi zs) ∧ Below w3.heap.size w3 wr ∧ w3.heap.size < wr.heap.size) (fun _ i _ => n - (intOf i).toNat)
 case atStart => exact ⟨0,_,0,Nat.zero_le _,rfl,rfl,by omega,by omega,(by unfold Hid;simp),HZ.out.1,(fun j h _ => by simp),HV0,hrow,hb4,hhs⟩
 case round =>
  clear HV0 hrow hb4 hhs HZ;obtain ⟨k,zs,cc,hk,rfl,rfl,hc0,hc1,HL,HD,HZ,HV,hr,hb,hhs⟩ := hrel
  by_cases hkn : k < n
  ·have hk1 : k < zs.length := by have := HL.out;omega
   have hkX : k < X.length := by have := HN.out;omega
   have hz0 : zs[k] = 0 := HZ.out k hk1 (Nat.le_refl _);have hx := zxE HCX.out k;have hy := zxE HCY.out k;have HTX := hid (zGC X k);have HTY := hid (zGC Y k);have HAY := hid (fun q => zEH (HY.out.below (below_drewN hb q)) k);rcases HM.out with e | ⟨b,off,rfl,hbg,hc⟩
   ·subst e;simp at hkX
   have cx : wr.cell? ⟨b,off + k,none⟩ = some (.int .i64 (X.getD k 0)) := by
    rw [show X.getD k 0 = X[k] by simp [hkX]];exact (hb.cell (p := ⟨b,off + k,none⟩) hbg).trans (hc k hkX)
   have cf : wr.frozen? ⟨w3.heap.size,k,none⟩ = false := hr.frozen _;have c1 : wr.cell? ⟨w3.heap.size,k,none⟩ = some (.int .i64 zs[k]) := RowI.num (r := []) (by simpa using hr) hk1;generalize X.getD k 0 = x at *;generalize Y.getD k 0 = y at *;obtain ⟨hx0,hx1⟩ := hx;obtain ⟨hy0,hy1⟩ := hy;have i0 : (0 : Int) ≤ (k : Int) := by omega
   have i1 : (k : Int) < (n : Int) := by omega
   have hwr1 : IntKind.i64.wrap (x - y) = x - y := zZA (by omega) (by omega);have hwr2 : IntKind.i64.wrap (x - y - cc) = x - y - cc := zZA (by omega) (by omega);clear hc hkX;have fin : ∀ (s d : Int),0 ≤ s → s ≤ 65535 → 0 ≤ d → d ≤ 1 → s - 65536 * d = x - y - cc → ∀ q,(∃ zs' : List Int,Hid (zs'.length = n) ∧ Hid (DF zs') ∧ Hid (∀ j (h : j < zs'.length),k + 1 ≤ j → zs'[j] = 0) ∧
     Hid (dval zs' - dpw (k + 1) * d = dval (X.take (k + 1)) - dval (Y.take (k + 1))) ∧ RowI ((wr.drewN q).setCell ⟨w3.heap.size,k,none⟩ (.int .i64 s)) w3.heap.size (wi zs') ∧ Below w3.heap.size w3 ((wr.drewN q).setCell ⟨w3.heap.size,k,none⟩ (.int .i64 s)) ∧ w3.heap.size < ((wr.drewN q).setCell ⟨w3.heap.size,k,none⟩ (.int .i64 s)).heap.size) := by
    intro s d hs0 hs1 hd0 hd1 he q;have HR := RowI.setNum (r := []) (by simpa using (show RowI (wr.drewN q) w3.heap.size (wi zs) from hr)) hk1 s;refine ⟨zs.set k s,?_,HD.out.set k (by unfold IsD dwB;omega),fun j h hj => ?_,?_,by simpa using HR,(below_drewN hb q).setCell (p := ⟨w3.heap.size,k,none⟩) (Nat.le_refl _) _,by simpa using hhs⟩
    ·unfold Hid;rw [List.length_set];exact HL.out
    ·rw [List.getElem_set_ne (by omega)];exact HZ.out j (by simpa using h) (by omega)
    ·have q1 := dborrow_step (xs := []) (ysT := dval (Y.take k) - dval (X.take k)) (ysT' := dval (Y.take (k + 1)) - dval (X.take (k + 1))) (p := dpw (k + 1)) (y := y - x) (s := s) (d := d) (c := cc) hk1 (by rw [HV.out];simp [dval];omega) (by rw [HTX.out,HTY.out,Int.sub_mul];omega) (by rw [hz0];unfold dwB;omega) rfl
     unfold Hid;rw [q1];simp [dval];omega
   have FIN := hid fin;clear fin hr hb HL HD HZ HV hhs;generalize zs[k] = z at *
   by_cases hsn : x - y - cc < 0
   ·go_wp2_with fail
    go_quiet ((go_at_call 99;exact Calls.quiet_of_same (HAY.out _)));go_wp2;obtain ⟨zs',f1,f2,f3,f4,f5,f6,f7⟩ := FIN.out (x - y - cc + 65536) 1 (by omega) (by omega) (by omega) (by omega) (by omega) nq;go_roundw
    case rel => exact ⟨k + 1,zs',1,by omega,by go_num,rfl,by omega,by omega,f1,f2,f3,f4,f5,f6,f7⟩
    case measure => simp [intOf];omega
   ·go_wp2_with fail
    go_quiet ((go_at_call 99;exact Calls.quiet_of_same (HAY.out _)));go_wp2;obtain ⟨zs',f1,f2,f3,f4,f5,f6,f7⟩ := FIN.out (x - y - cc) 0 (by omega) (by omega) (by omega) (by omega) (by omega) nq;go_roundw
    case rel => exact ⟨k + 1,zs',0,by omega,by go_num,rfl,by omega,by omega,f1,f2,f3,f4,f5,f6,f7⟩
    case measure => simp [intOf];omega
  ·obtain rfl : k = n := by omega
   have hv : dval zs - dpw k * cc = dval X - dval Y := by
    have q := HV.out
    rwa [List.take_of_length_le (by have := HN.out;omega),List.take_of_length_le (by have := HN.out;have := HWW.out;omega)] at q
   have hcc : cc = 0 := by
    have h1 := zVE HD.out;rw [HL.out] at h1;have h2 := HGE.out;rw [← HVX.out,← HVY.out] at h2
    by_cases q : cc = 0
    ·exact q
    ·have : cc = 1 := by omega
     rw [this] at hv;omega
   have HV' : Hid (dval zs = val xs - val ys) := by unfold Hid;rw [hcc] at hv;rw [← HVX.out,← HVY.out];omega
   have hsz := RowI.sl (r := []) (by simpa using hr) (zTE HD.out) (cap := k) (by rw [HL.out];exact Nat.le_refl _) (by omega) hhs;rw [HL.out] at hsz;have HJ := hid (zrE hsz HD.out);have HBB := hid (below_step hb13.out hb);clear hsz hr hb hv hcc HV HL;go_wp2_with fail;refine HJ.out.mono ?_;rintro e w5 ⟨qs,q,rfl,ho,hcz,hvz,hb5⟩;have HVZ := hid hvz;clear hvz;go_wp2;go_ret2;exact ⟨qs,q,rfl,ho.from HBB.out.size,hcz,by rw [HVZ.out,HV'.out],below_step HBB.out hb5⟩
end Go.Proofs.YtmnecbniappnaaaGreat
