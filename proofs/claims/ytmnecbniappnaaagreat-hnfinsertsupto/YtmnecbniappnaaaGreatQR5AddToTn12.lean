/-
 QR5AddToTn12: R5Add, Rm12, Tn12, joined.
-/
import Derived.Test.YtmnecbniappnaaaGreatQR5OnesToRSub
import Derived.Test.YtmnecbniappnaaaGreatQRc12ToRowsI
import Derived.Test.YtmnecbniappnaaaGreatQFil9ToRowsOf9
import Derived.Test.YtmnecbniappnaaaGreatQLm6ToLeastA9

set_option maxRecDepth 100000
set_option maxHeartbeats 6400000
set_option linter.unusedVariables false
set_option linter.unusedSimpArgs false
namespace Go.Proofs.YtmnecbniappnaaaGreat
open Go.RowKit
theorem radd_z {w : World} {va vb : Value} {A B : Int} {ka kb : Nat} (ha : Zi w va A ka) (hb : Zi w vb B kb) (hk : ka ≤ 1099511627776) (hl : kb ≤ 1099511627776) :
  Calls Tryz.prog 50 #[va,vb] w (zkA w (A + B) (max ka kb + 1)) := by
 have za0 := ha;obtain ⟨na,xa,aa,ca,rfl,sa,ea,la⟩ := ha;have zb0 := hb;obtain ⟨nb,xb,ab,cb,rfl,sb,eb,lb⟩ := hb;obtain ⟨W0,hW0⟩ : ∃ W0,((w.alloc (duo (.bool na) (.slice aa xa.length ca))).alloc (duo (.bool nb) (.slice ab xb.length cb))).alloc zbox = W0 := ⟨_,rfl⟩
 obtain ⟨b0,sz0⟩ := zKC w (duo (.bool na) (.slice aa xa.length ca)) (duo (.bool nb) (.slice ab xb.length cb)) zbox;rw [hW0] at b0 sz0;have pa : Duo W0 (w.heap.size) (.bool na) (.slice aa xa.length ca) := by rw [← hW0];exact zBA (zBA (zEA (by simp)) _) _
 have pb : Duo W0 (w.heap.size + 1) (.bool nb) (.slice ab xb.length cb) := by rw [← hW0];exact zBA (zEA (by simp)) _
 have r0 : Duo W0 (w.heap.size + 1 + 1) (.bool false) (.slice none 0 0) := by rw [← hW0];exact zEA (by simp)
 have Pa := hid pa;have ia0 := pa.c0;have ia1 := pa.c1;have Za := hid (za0.now b0);have Sa := hid (sa.now b0);have Pb := hid pb;have ib0 := pb.c0;have ib1 := pb.c1;have Zb := hid (zb0.now b0);have Sb := hid (sb.now b0);have R0 := hid r0;have EW := hid hW0;have G := hid b0;clear b0 hW0 za0 sa pa zb0 sb pb r0;have hxa := hid Sa.out.1;have hxb := hid Sb.out.1;have va0 := hid (zIA Sa.out.1);have vb0 := hid (zIA Sb.out.1)
 by_cases hnm : na = nb
 ·have hq : (na == nb) = true := by simp [hnm]
  have HV : Hid (∀ zs,val zs = val xa + val xb → iv na zs = A + B) := fun zs e => by
   rw [← ea,← eb];subst hnm;cases na <;> simp [iv,e] <;> omega
  have HLt : Hid (val xa + val xb < pw (max xa.length xb.length + 1)) := by
   have h1 := zUA hxa.out;have h2 := zUA hxb.out;have h3 := zqG (show xa.length ≤ max xa.length xb.length by omega);have h4 := zqG (show xb.length ≤ max xa.length xb.length by omega);unfold Hid;rw [pw,show wB = 18446744073709551616 from rfl];have := zjA (max xa.length xb.length);omega
  clear ea eb hnm;go_enter Tryz.func50,Tryz.ntmps50;go_wp2_with fail;rw [EW.out];clear ia0 ia1 ib0 ib1;refine (radd_any Sa.out Sb.out (by omega) (by omega)).mono ?_;rintro e w1 ⟨zs,r,rfl,ho,hc,hv,b⟩;obtain ⟨az,cz,rfl⟩ := ho.form;have hk1 : zs.length ≤ max xa.length xb.length + 1 := zrA hc (by rw [hv];exact HLt.out);have HM := hid ho.sl;have lw := b.size;have EV := hid (HV.out zs hv);replace Pa := hid (Pa.out.step b);have ia0 := Pa.out.c0;have ia1 := Pa.out.c1;replace Pb := hid (Pb.out.step b);have ib0 := Pb.out.c0;have ib1 := Pb.out.c1;replace R0 := hid (R0.out.step b);replace G := hid (below_step G.out b);clear b ho hc hv HV HLt;have HL : Hid (Calls Tryz.prog 74 #[.bool na,.slice az zs.length cz] w1 (zkA w1 (A + B) zs.length)) := by
   unfold Hid;have q := zpG (n := na) HM.out (by omega);rw [EV.out] at q;exact q
  go_wp2_with fail;clear ia0 ia1 ib0 ib1;refine (HL.out).mono ?_;rintro e w2 ⟨r,rfl,m2,b⟩;obtain ⟨n2,x2,a2,q2,rfl,-,-,-,-,-⟩ := id m2;replace R0 := hid (R0.out.step b);replace G := hid (below_step G.out b);have Z2 := hid ((m2.mono (B' := W0.heap.size) lw).more (l := max ka kb + 1) (by omega));clear b m2;have y00 := R0.out.c0;have y01 := R0.out.c1;have f00 := R0.out.fz 0;have f01 := R0.out.fz 1;go_wp2;exact bodyPost_ret (zNB Tryz.results50 (R0.out.set _ _) _ (by rfl)) rfl (zJC (B := W0.heap.size) Z2.out G.out (by omega) (by omega))
 ·have hq : (na == nb) = false := by simp [hnm]
  have HC : Hid (∀ w',Below W0.heap.size W0 w' → _) := fun w' h => zEG (Sa.out.now h) (Sb.out.now h) (by omega) (by omega)
  by_cases hge : val xb ≤ val xa
  ·have hcmp : 0 ≤ cmpI (val xa) (val xb) := by have := zxA hge;omega
   have HV : Hid (∀ zs,val zs = val xa - val xb → iv na zs = A + B) := fun zs e => by
    rw [← ea,← eb];cases na <;> cases nb <;> simp [iv,e] at hnm ⊢ <;> omega
   have HS : Hid (∀ w',Below W0.heap.size W0 w' → _) := fun w' h => zCG (Sa.out.now h) (Sb.out.now h) (by omega) (by omega) hge
   have HLt := hid (zUA hxa.out);generalize cmpI (val xa) (val xb) = C at *;clear ea eb hnm hge;go_enter Tryz.func50,Tryz.ntmps50;go_wp2_with fail;rw [EW.out];clear ia0 ia1 ib0 ib1;refine (HC.out W0 (Below.refl _ _)).mono ?_;rintro e w1 ⟨rfl,b⟩;have B1 := hid b;replace Pa := hid (Pa.out.step b);have ia0 := Pa.out.c0;have ia1 := Pa.out.c1;replace Pb := hid (Pb.out.step b);have ib0 := Pb.out.c0;have ib1 := Pb.out.c1;replace R0 := hid (R0.out.step b);replace G := hid (below_step G.out b);clear b;go_wp2_with fail;refine (HS.out w1 B1.out).mono ?_;rintro e w2 ⟨zs,r,rfl,ho,hc,hv,b⟩;obtain ⟨az,cz,rfl⟩ := ho.form;have hk1 : zs.length ≤ xa.length := zrA hc (by rw [hv];have h1 := va0.out;have h2 := vb0.out;have h3 := HLt.out;omega);have HM := hid ho.sl;have lw := Nat.le_trans B1.out.size b.size;have EV := hid (HV.out zs hv);clear ia0 ia1 ib0 ib1;replace Pa := hid (Pa.out.step b);have ia0 := Pa.out.c0;have ia1 := Pa.out.c1;replace Pb := hid (Pb.out.step b);have ib0 := Pb.out.c0;have ib1 := Pb.out.c1;replace R0 := hid (R0.out.step b);replace G := hid (below_step G.out b);clear b ho hc hv HV HLt;have HL : Hid (Calls Tryz.prog 74 #[.bool na,.slice az zs.length cz] w2 (zkA w2 (A + B) zs.length)) := by
    unfold Hid;have q := zpG (n := na) HM.out (by omega);rw [EV.out] at q;exact q
   go_wp2_with fail;clear ia0 ia1 ib0 ib1;refine (HL.out).mono ?_;rintro e w3 ⟨r,rfl,m3,b⟩;obtain ⟨n3,x3,a3,q3,rfl,-,-,-,-,-⟩ := id m3;replace R0 := hid (R0.out.step b);replace G := hid (below_step G.out b);have Z3 := hid ((m3.mono (B' := W0.heap.size) lw).more (l := max ka kb + 1) (by omega));clear b m3;have y00 := R0.out.c0;have y01 := R0.out.c1;have f00 := R0.out.fz 0;have f01 := R0.out.fz 1;go_wp2;exact bodyPost_ret (zNB Tryz.results50 (R0.out.set _ _) _ (by rfl)) rfl (zJC (B := W0.heap.size) Z3.out G.out (by omega) (by omega))
  ·have hcmp : ¬ 0 ≤ cmpI (val xa) (val xb) := by have := zrB (Int.lt_of_not_ge hge);omega
   have HV : Hid (∀ zs,val zs = val xb - val xa → iv nb zs = A + B) := fun zs e => by
    rw [← ea,← eb];cases na <;> cases nb <;> simp [iv,e] at hnm ⊢ <;> omega
   have HS : Hid (∀ w',Below W0.heap.size W0 w' → _) := fun w' h => zCG (Sb.out.now h) (Sa.out.now h) (by omega) (by omega) (by omega)
   have HLt := hid (zUA hxb.out);generalize cmpI (val xa) (val xb) = C at *;clear ea eb hnm hge;go_enter Tryz.func50,Tryz.ntmps50;go_wp2_with fail;rw [EW.out];clear ia0 ia1 ib0 ib1;refine (HC.out W0 (Below.refl _ _)).mono ?_;rintro e w1 ⟨rfl,b⟩;have B1 := hid b;replace Pa := hid (Pa.out.step b);have ia0 := Pa.out.c0;have ia1 := Pa.out.c1;replace Pb := hid (Pb.out.step b);have ib0 := Pb.out.c0;have ib1 := Pb.out.c1;replace R0 := hid (R0.out.step b);replace G := hid (below_step G.out b);clear b;go_wp2_with fail;refine (HS.out w1 B1.out).mono ?_;rintro e w2 ⟨zs,r,rfl,ho,hc,hv,b⟩;obtain ⟨az,cz,rfl⟩ := ho.form;have hk1 : zs.length ≤ xb.length := zrA hc (by rw [hv];have h1 := va0.out;have h2 := vb0.out;have h3 := HLt.out;omega);have HM := hid ho.sl;have lw := Nat.le_trans B1.out.size b.size;have EV := hid (HV.out zs hv);clear ia0 ia1 ib0 ib1;replace Pa := hid (Pa.out.step b);have ia0 := Pa.out.c0;have ia1 := Pa.out.c1;replace Pb := hid (Pb.out.step b);have ib0 := Pb.out.c0;have ib1 := Pb.out.c1;replace R0 := hid (R0.out.step b);replace G := hid (below_step G.out b);clear b ho hc hv HV HLt;have HL : Hid (Calls Tryz.prog 74 #[.bool nb,.slice az zs.length cz] w2 (zkA w2 (A + B) zs.length)) := by
    unfold Hid;have q := zpG (n := nb) HM.out (by omega);rw [EV.out] at q;exact q
   go_wp2_with fail;clear ia0 ia1 ib0 ib1;refine (HL.out).mono ?_;rintro e w3 ⟨r,rfl,m3,b⟩;obtain ⟨n3,x3,a3,q3,rfl,-,-,-,-,-⟩ := id m3;replace R0 := hid (R0.out.step b);replace G := hid (below_step G.out b);have Z3 := hid ((m3.mono (B' := W0.heap.size) lw).more (l := max ka kb + 1) (by omega));clear b m3;have y00 := R0.out.c0;have y01 := R0.out.c1;have f00 := R0.out.fz 0;have f01 := R0.out.fz 1;go_wp2;exact bodyPost_ret (zNB Tryz.results50 (R0.out.set _ _) _ (by rfl)) rfl (zJC (B := W0.heap.size) Z3.out G.out (by omega) (by omega))
theorem rmulAdd_z {w : World} {va vb vc : Value} {A B C : Int} {ka kb kc : Nat} (ha : Zi w va A ka) (hb : Zi w vb B kb) (hc : Zi w vc C kc) (hk : ka + kb ≤ 1099511627776) (hl : kc ≤ 1099511627776) :
  Calls Tryz.prog 26 #[va,vb,vc] w (zkA w (A * B + C) (max (ka + kb) kc + 1)) := by
 have za0 := ha;obtain ⟨na,xa,aa,ca,rfl,sa,ea,la⟩ := ha;have zb0 := hb;obtain ⟨nb,xb,ab,cb,rfl,sb,eb,lb⟩ := hb;have zc0 := hc;obtain ⟨nc,xc,ac,cc,rfl,sc,ec,lc⟩ := hc;obtain ⟨W0,hW0⟩ : ∃ W0,(((w.alloc (duo (.bool na) (.slice aa xa.length ca))).alloc (duo (.bool nb) (.slice ab xb.length cb))).alloc (duo (.bool nc) (.slice ac xc.length cc))).alloc zbox = W0 := ⟨_,rfl⟩
 obtain ⟨b0,sz0⟩ := zAC w (duo (.bool na) (.slice aa xa.length ca)) (duo (.bool nb) (.slice ab xb.length cb)) (duo (.bool nc) (.slice ac xc.length cc)) zbox;rw [hW0] at b0 sz0;have pa : Duo W0 (w.heap.size) (.bool na) (.slice aa xa.length ca) := by rw [← hW0];exact zBA (zBA (zBA (zEA (by simp)) _) _) _
 have pb : Duo W0 (w.heap.size + 1) (.bool nb) (.slice ab xb.length cb) := by rw [← hW0];exact zBA (zBA (zEA (by simp)) _) _
 have pc : Duo W0 (w.heap.size + 1 + 1) (.bool nc) (.slice ac xc.length cc) := by rw [← hW0];exact zBA (zEA (by simp)) _
 have r0 : Duo W0 (w.heap.size + 1 + 1 + 1) (.bool false) (.slice none 0 0) := by rw [← hW0];exact zEA (by simp)
 have Pa := hid pa;have ia0 := pa.c0;have ia1 := pa.c1;have Za := hid (za0.now b0);have Sa := hid (sa.now b0);have Pb := hid pb;have ib0 := pb.c0;have ib1 := pb.c1;have Zb := hid (zb0.now b0);have Sb := hid (sb.now b0);have Pc := hid pc;have ic0 := pc.c0;have ic1 := pc.c1;have Zc := hid (zc0.now b0);have Sc := hid (sc.now b0);have R0 := hid r0;have EW := hid hW0;have G := hid b0;clear b0 hW0 za0 sa pa zb0 sb pb zc0 sc pc r0;clear ea eb ec;go_enter Tryz.func26,Tryz.ntmps26;go_wp2_with fail;rw [EW.out];clear ia0 ia1 ib0 ib1 ic0 ic1;refine (rmul_z Za.out Zb.out (by omega) (by omega)).mono ?_;rintro e w1 ⟨r,rfl,m1,b⟩;obtain ⟨n1,x1,a1,q1,rfl,-,-,-,-,-⟩ := id m1;obtain ⟨W1,hW1⟩ : ∃ W1,w1.alloc (duo (.bool n1) (.slice a1 x1.length q1)) = W1 := ⟨_,rfl⟩
 obtain ⟨kW,sz1⟩ := zeE w1 (duo (.bool n1) (.slice a1 x1.length q1));rw [hW1] at kW sz1;have lw := b.size;have j0 : Duo W1 w1.heap.size (.bool n1) (.slice a1 x1.length q1) := by rw [← hW1];exact zEA rfl
 replace b := below_step b kW;replace Zc := hid (Zc.out.now b);replace Pc := hid (Pc.out.step b);have ic0 := Pc.out.c0;have ic1 := Pc.out.c1;replace R0 := hid (R0.out.step b);replace G := hid (below_step G.out b);have Z1 := hid (m1.now kW);have j1 := j0.c0;have j2 := j0.c1;rw [← hW1] at j1 j2 ic0 ic1;have EW1 := hid hW1;clear b m1 kW hW1 j0;go_wp2_with fail;rw [EW1.out];clear j1 j2 ic0 ic1;refine (radd_z Z1.out.zi Zc.out hk hl).mono ?_;rintro e w2 ⟨r,rfl,m2,b⟩;obtain ⟨n2,x2,a2,q2,rfl,-,-,-,-,-⟩ := id m2;replace R0 := hid (R0.out.step b);replace G := hid (below_step G.out b);have Z2 := hid (m2.mono (B' := W0.heap.size) (by omega));clear b m2;have y00 := R0.out.c0;have y01 := R0.out.c1;have f00 := R0.out.fz 0;have f01 := R0.out.fz 1;go_wp2;exact bodyPost_ret (zNB Tryz.results26 (R0.out.set _ _) _ (by rfl)) rfl (zJC (B := W0.heap.size) Z2.out G.out (by omega) (by omega))
theorem Cel.ty12 {T T' : TypeId} {w w' : World} {b : Nat} {L : List Value} (h : Cel w b T L) (ht : Ty T' w w') (hT : T ≠ T') : Cel w' b T L := ht.2 b _ _ _ h hT
theorem Arr.ty12 {w : World} {g t : Nat} {ps : List (Value × Value)} (h : Arr w g ps) (x y : Value) : Ty 40 w ((w.setCell ⟨g,t * 2,none⟩ x).setCell ⟨g,t * 2 + 1,none⟩ y) :=
 (Ty.set h.1).trans (Ty.set (h.1.set _ _))
def MB (w wx : World) (bm : Nat) (A0 B0 M0 : List Value) : Prop := Cel wx w.heap.size 24 A0 ∧ Cel wx (w.heap.size + 1) 24 B0 ∧ Cel wx (w.heap.size + 1 + 1) 24 [.int .i64 0,.int .i64 0,.slice none 0 0] ∧ Cel wx bm 24 M0 ∧ Below w.heap.size w wx
theorem zmE {r c i j : Nat} (hi : i < r) (hj : j < c) : i * c + j < r * c := by
 have : (i + 1) * c ≤ r * c := Nat.mul_le_mul_right c hi;rw [Nat.succ_mul] at this;omega
theorem Prs.isI12 {B : Nat} {w : World} {v : Value} {ps : List (Value × Value)} {zs : List Int} {k t : Nat} (h : Prs B w v ps) (hz : Zis w ps zs k) (ht : t < zs.length) : ∃ b off cap n a l c,v = .slice (some ⟨b,off,none⟩) zs.length cap ∧ w.cell? ⟨b,off + t * 2,none⟩ = some (.bool n) ∧ w.cell? ⟨b,off + t * 2 + 1,none⟩ = some (.slice a l c) ∧ Zi w (.agg #[.bool n,.slice a l c]) (zs.getD t 0) k := by
 obtain ⟨a0,c0,rfl,h2,h3,h4,h5⟩ := h.form;obtain ⟨b,off,rfl,-⟩ := h5 (fun e => by have := hz.1;rw [e] at this;simp at this;omega);have hp : ps[t]? = some (ps[t]'(by have := hz.1;omega)) := List.getElem?_eq_getElem (by have := hz.1;omega);have hq : zs[t]? = some (zs[t]) := List.getElem?_eq_getElem ht;have h6 := hz.2 t _ _ hp hq;obtain ⟨n,a,l,c,e⟩ := h6.isI;have h7 := h.at hp;have e' : ps[t]'(by have := hz.1;omega) = (.bool n,.slice a l c) := e;rw [e'] at h6 h7;refine ⟨b,off,c0,n,a,l,c,by rw [hz.1],h7.1,h7.2,?_⟩;have : zs.getD t 0 = zs[t] := by simp [ht]
 rw [this];exact h6
def ArZ (wx : World) (g : Nat) (zs : List Int) (k : Nat) : Prop := ∃ ps,Arr wx g ps ∧ Zms wx ps zs k
theorem zCF (w : World) (k : Nat) : Zm 0 w (.agg #[.bool false,.slice none 0 0]) 0 k := ⟨false,[],none,0,rfl,Mine.nil _ _,⟨WF.nil,rfl⟩,fun _ => rfl,by simp [iv,val],Nat.zero_le _⟩
theorem ArZ.start {w : World} {g n : Nat} (h : Arr w g (List.replicate n zfF)) (k : Nat) : ArZ w g (List.replicate n 0) k := by
 refine ⟨_,h,by simp,fun j p z hp hz => ?_⟩;rw [List.eq_of_mem_replicate (List.mem_of_getElem? hp),List.eq_of_mem_replicate (List.mem_of_getElem? hz)];exact zCF w k
theorem ArZ.step {w w' : World} {g : Nat} {zs : List Int} {k : Nat} (h : ArZ w g zs k) (hb : Below w.heap.size w w') : ArZ w' g zs k := by
 obtain ⟨ps,h1,h2⟩ := h;exact ⟨ps,h1.step hb,h2.now hb⟩
theorem ArZ.ty12 {w : World} {g t : Nat} {zs : List Int} {k : Nat} (h : ArZ w g zs k) (x y : Value) : Ty 40 w ((w.setCell ⟨g,t * 2,none⟩ x).setCell ⟨g,t * 2 + 1,none⟩ y) := by
 obtain ⟨ps,h1,h2⟩ := h;exact h1.ty12 x y
theorem ArZ.put {w : World} {g t : Nat} {zs : List Int} {k : Nat} {x y : Value} {z : Int} (h : ArZ w g zs k) (ht : t < zs.length) (hz : Zm 0 w (.agg #[x,y]) z k) : ArZ ((w.setCell ⟨g,t * 2,none⟩ x).setCell ⟨g,t * 2 + 1,none⟩ y) g (zs.set t z) k := by
 have hty := h.ty12 (t := t) x y;obtain ⟨ps,h1,h2⟩ := h;refine ⟨ps.set t (x,y),h1.put (by rw [h2.1];exact ht) hz.zi.isI,by simp [h2.1],fun j p q hp hq => ?_⟩
 by_cases e : j = t
 ·subst e
  rw [List.getElem?_set_self (by rw [h2.1];exact ht),Option.some.injEq] at hp;rw [List.getElem?_set_self ht,Option.some.injEq] at hq;subst hp;subst hq;exact hz.ty hty (by decide)
 ·rw [List.getElem?_set_ne (by omega)] at hp hq
  exact (h2.2 j p q hp hq).ty hty (by decide)
theorem ArZ.cells {w : World} {g j : Nat} {zs : List Int} {k : Nat} (h : ArZ w g zs k) (hj : j < zs.length) : ∃ m a l c,w.cell? ⟨g,j * 2,none⟩ = some (.bool m) ∧ w.cell? ⟨g,j * 2 + 1,none⟩ = some (.slice a l c) ∧ w.frozen? ⟨g,j * 2,none⟩ = false ∧ w.frozen? ⟨g,j * 2 + 1,none⟩ = false ∧ Zm 0 w (.agg #[.bool m,.slice a l c]) (zs.getD j 0) k := by
 obtain ⟨ps,h1,h2⟩ := h;have hl := h2.1;have hp : ps[j]? = some (ps[j]'(by omega)) := List.getElem?_eq_getElem (by omega);have hq : zs[j]? = some (zs[j]) := List.getElem?_eq_getElem hj;obtain ⟨m,a,l,c,e⟩ := h1.2 _ (List.getElem_mem (l := ps) (n := j) (by omega));have q := h1.at hp;have z := h2.2 j _ _ hp hq;rw [e] at q z;have : zs.getD j 0 = zs[j] := by simp [hj]
 rw [this];exact ⟨m,a,l,c,q.1,q.2,h1.1.fz _,h1.1.fz _,z⟩
theorem ArZ.done {w : World} {g : Nat} {zs : List Int} {k : Nat} (h : ArZ w g zs k) (hn : zs.length ≤ 1048576) : ∃ ps,PrsT w (.slice (some ⟨g,0,none⟩) zs.length zs.length) ps ∧ Zms w ps zs k := by
 obtain ⟨ps,h1,h2⟩ := h;refine ⟨ps,?_,h2⟩;rw [← h2.1];exact h1.prsT (by rw [h2.1];exact hn)
def MB1 (w wx : World) (bm : Nat) (A0 M0 : List Value) : Prop := Cel wx w.heap.size 24 A0 ∧ Cel wx (w.heap.size + 1) 24 [.int .i64 0,.int .i64 0,.slice none 0 0] ∧ Cel wx bm 24 M0 ∧ Below w.heap.size w wx
end Go.Proofs.YtmnecbniappnaaaGreat
