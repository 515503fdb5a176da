import Derived.Test.YtnfkibjoconphaaGreatQROrderToRDigits
import Derived.Test.YtnfkibjoconphaaGreatQRWordsToRMul
set_option maxRecDepth 100000
set_option maxHeartbeats 6400000
set_option linter.unusedVariables false
set_option linter.unusedSimpArgs false
namespace Go.Proofs.YtnfkibjoconphaaGreat
open Go.RowKit
theorem zhG {w : World} {va : Value} {A : Int} {ka : Nat} (ha : Zi w va A ka) (hk : ka ≤ 1099511627776) :
  Calls Tryz.prog 28 #[va] w (zbA w A ka) := by
 have za0 := ha;obtain ⟨na,xa,aa,ca,rfl,sa,ea,la⟩ := ha;obtain ⟨W0,hW0⟩ : ∃ W0,(w.alloc (duo (.bool na) (.slice aa xa.length ca))).alloc zbox = W0 := ⟨_,rfl⟩
 obtain ⟨b0,sz0⟩ := zwA w (duo (.bool na) (.slice aa xa.length ca)) zbox;rw [hW0] at b0 sz0;have pa : Duo W0 (w.heap.size) (.bool na) (.slice aa xa.length ca) := by rw [← hW0];exact zCA (zEA (by simp)) _
 have r0 : Duo W0 (w.heap.size + 1) (.bool false) (.slice none 0 0) := by rw [← hW0];exact zEA (by simp)
 have Pa := hid pa;have ia0 := pa.c0;have ia1 := pa.c1;have Za := hid (za0.now b0);have Sa := hid (sa.now b0);have R0 := hid r0;have EW := hid hW0;have G := hid b0;clear b0 hW0 za0 sa pa r0;have EV : Hid (iv na xa = A) := by
  unfold Hid;have hx := Sa.out.1;exact ea
 clear ea;have HL : Hid (Calls Tryz.prog 54 #[.bool na,.slice aa xa.length ca] W0 (zbA W0 A xa.length)) := by
  unfold Hid;have q := zYE (n := na) Sa.out (by omega);rw [EV.out] at q;exact q
 clear EV;go_enter Tryz.func28,Tryz.ntmps28;go_wp2_with fail;rw [EW.out];clear ia0 ia1;refine (HL.out).mono ?_;rintro e w1 ⟨r,rfl,m1,b⟩;obtain ⟨n1,x1,a1,q1,rfl,-,-,-,-,-⟩ := id m1;replace R0 := hid (R0.out.step b);replace G := hid (below_step G.out b);have Z1 := hid (m1.more la);clear b m1;have y00 := R0.out.c0;have y01 := R0.out.c1;have f00 := R0.out.fz 0;have f01 := R0.out.fz 1;go_wp2;exact bodyPost_ret (zNB Tryz.results28 (R0.out.set _ _) _ (by rfl)) rfl (zuB (B := W0.heap.size) Z1.out G.out (by omega) (by omega))
theorem rabs_z {w : World} {va : Value} {A : Int} {ka : Nat} (ha : Zi w va A ka) (hk : ka ≤ 1099511627776) :
  Calls Tryz.prog 83 #[va] w (zbA w (A.natAbs : Int) ka) := by
 have za0 := ha;obtain ⟨na,xa,aa,ca,rfl,sa,ea,la⟩ := ha;obtain ⟨W0,hW0⟩ : ∃ W0,(w.alloc (duo (.bool na) (.slice aa xa.length ca))).alloc zbox = W0 := ⟨_,rfl⟩
 obtain ⟨b0,sz0⟩ := zwA w (duo (.bool na) (.slice aa xa.length ca)) zbox;rw [hW0] at b0 sz0;have pa : Duo W0 (w.heap.size) (.bool na) (.slice aa xa.length ca) := by rw [← hW0];exact zCA (zEA (by simp)) _
 have r0 : Duo W0 (w.heap.size + 1) (.bool false) (.slice none 0 0) := by rw [← hW0];exact zEA (by simp)
 have Pa := hid pa;have ia0 := pa.c0;have ia1 := pa.c1;have Za := hid (za0.now b0);have Sa := hid (sa.now b0);have R0 := hid r0;have EW := hid hW0;have G := hid b0;clear b0 hW0 za0 sa pa r0;have EV : Hid (iv false xa = (A.natAbs : Int)) := by
  unfold Hid;have hx := Sa.out.1;rw [zMC];exact zaD hx ea
 clear ea;have HL : Hid (Calls Tryz.prog 54 #[.bool false,.slice aa xa.length ca] W0 (zbA W0 (A.natAbs : Int) xa.length)) := by
  unfold Hid;have q := zYE (n := false) Sa.out (by omega);rw [EV.out] at q;exact q
 clear EV;go_enter Tryz.func83,Tryz.ntmps83;go_wp2_with fail;rw [EW.out];clear ia0 ia1;refine (HL.out).mono ?_;rintro e w1 ⟨r,rfl,m1,b⟩;obtain ⟨n1,x1,a1,q1,rfl,-,-,-,-,-⟩ := id m1;replace R0 := hid (R0.out.step b);replace G := hid (below_step G.out b);have Z1 := hid (m1.more la);clear b m1;have y00 := R0.out.c0;have y01 := R0.out.c1;have f00 := R0.out.fz 0;have f01 := R0.out.fz 1;go_wp2;exact bodyPost_ret (zNB Tryz.results83 (R0.out.set _ _) _ (by rfl)) rfl (zuB (B := W0.heap.size) Z1.out G.out (by omega) (by omega))
theorem rof_z {n : Int} (h0 : -9223372036854775808 ≤ n) (h1 : n ≤ 9223372036854775807) (w : World) :
  Calls Tryz.prog 82 #[.int .i64 n] w (zbA w n 1) := by
 by_cases hn : n < 0
 ·skip
  obtain ⟨x,hx⟩ : ∃ x,(-n) = x := ⟨_,rfl⟩
  have bx : 0 ≤ x ∧ x ≤ 18446744073709551615 := by omega
  have e1 : IntKind.u64.wrap (wrap64 (-n)) = x := by rw [IntKind.wrap_u64];unfold wrap64;omega
  have EV : iv true [x] = n := by simp [iv,val];omega
  obtain ⟨W0,hW0⟩ : ∃ W0,(w.alloc zbox).alloc (.cells #[.int .u64 x] 25) = W0 := ⟨_,rfl⟩
  obtain ⟨b0,sz0⟩ := zwA w zbox (.cells #[.int .u64 x] 25);rw [hW0] at b0 sz0;have r0 : Duo W0 w.heap.size (.bool false) (.slice none 0 0) := by rw [← hW0];exact zCA (zEA rfl) _
  have hs : Sl W0.heap.size W0 (.slice (some ⟨w.heap.size + 1,0,none⟩) 1 1) [x] := by
   have := zSC (w.alloc zbox) x bx;rw [hW0] at this
   simpa using this
  have HL := hid (zYE (n := true) (xs := [x]) hs (by simp));rw [EV] at HL;have R0 := hid r0;have EW := hid hW0;have G := hid b0;have EX := hid hx;clear hs r0 hW0 b0 bx EV hx;go_enter Tryz.func82,Tryz.ntmps82;go_wp2_with fail;rw [EW.out];refine HL.out.mono ?_;rintro e w1 ⟨r,rfl,m1,b⟩;obtain ⟨n1,x1,a1,q1,rfl,-,-,-,-,-⟩ := id m1;replace R0 := hid (R0.out.step b);replace G := hid (below_step G.out b);have Z1 := hid m1;clear b m1;have y00 := R0.out.c0;have y01 := R0.out.c1;have f00 := R0.out.fz 0;have f01 := R0.out.fz 1;go_wp2;exact bodyPost_ret (zNB Tryz.results82 (R0.out.set _ _) _ (by rfl)) rfl (zuB (B := W0.heap.size) Z1.out G.out (by omega) (by omega))
 ·skip
  have hn' : ¬ n < 0 := hn;obtain ⟨x,hx⟩ : ∃ x,n = x := ⟨_,rfl⟩
  have bx : 0 ≤ x ∧ x ≤ 18446744073709551615 := by omega
  have e1 : IntKind.u64.wrap n = x := by rw [IntKind.wrap_u64];omega
  have EV : iv false [x] = n := by simp [iv,val];omega
  obtain ⟨W0,hW0⟩ : ∃ W0,(w.alloc zbox).alloc (.cells #[.int .u64 x] 25) = W0 := ⟨_,rfl⟩
  obtain ⟨b0,sz0⟩ := zwA w zbox (.cells #[.int .u64 x] 25);rw [hW0] at b0 sz0;have r0 : Duo W0 w.heap.size (.bool false) (.slice none 0 0) := by rw [← hW0];exact zCA (zEA rfl) _
  have hs : Sl W0.heap.size W0 (.slice (some ⟨w.heap.size + 1,0,none⟩) 1 1) [x] := by
   have := zSC (w.alloc zbox) x bx;rw [hW0] at this
   simpa using this
  have HL := hid (zYE (n := false) (xs := [x]) hs (by simp));rw [EV] at HL;have R0 := hid r0;have EW := hid hW0;have G := hid b0;have EX := hid hx;clear hs r0 hW0 b0 bx EV hx;go_enter Tryz.func82,Tryz.ntmps82;go_wp2_with fail;rw [EW.out];refine HL.out.mono ?_;rintro e w1 ⟨r,rfl,m1,b⟩;obtain ⟨n1,x1,a1,q1,rfl,-,-,-,-,-⟩ := id m1;replace R0 := hid (R0.out.step b);replace G := hid (below_step G.out b);have Z1 := hid m1;clear b m1;have y00 := R0.out.c0;have y01 := R0.out.c1;have f00 := R0.out.fz 0;have f01 := R0.out.fz 1;go_wp2;exact bodyPost_ret (zNB Tryz.results82 (R0.out.set _ _) _ (by rfl)) rfl (zuB (B := W0.heap.size) Z1.out G.out (by omega) (by omega))
theorem rmul_z {w : World} {va vb : Value} {A B : Int} {ka kb : Nat} (ha : Zi w va A ka) (hb : Zi w vb B kb) (hk : ka ≤ 1099511627776) (hl : kb ≤ 1099511627776) :
  Calls Tryz.prog 63 #[va,vb] w (zbA w (A * B) (ka + kb)) := by
 have za0 := ha;obtain ⟨na,xa,aa,ca,rfl,sa,ea,la⟩ := ha;have zb0 := hb;obtain ⟨nb,xb,ab,cb,rfl,sb,eb,lb⟩ := hb;obtain ⟨W0,hW0⟩ : ∃ W0,((w.alloc (duo (.bool na) (.slice aa xa.length ca))).alloc (duo (.bool nb) (.slice ab xb.length cb))).alloc zbox = W0 := ⟨_,rfl⟩
 obtain ⟨b0,sz0⟩ := zdC w (duo (.bool na) (.slice aa xa.length ca)) (duo (.bool nb) (.slice ab xb.length cb)) zbox;rw [hW0] at b0 sz0;have pa : Duo W0 (w.heap.size) (.bool na) (.slice aa xa.length ca) := by rw [← hW0];exact zCA (zCA (zEA (by simp)) _) _
 have pb : Duo W0 (w.heap.size + 1) (.bool nb) (.slice ab xb.length cb) := by rw [← hW0];exact zCA (zEA (by simp)) _
 have r0 : Duo W0 (w.heap.size + 1 + 1) (.bool false) (.slice none 0 0) := by rw [← hW0];exact zEA (by simp)
 have Pa := hid pa;have ia0 := pa.c0;have ia1 := pa.c1;have Za := hid (za0.now b0);have Sa := hid (sa.now b0);have Pb := hid pb;have ib0 := pb.c0;have ib1 := pb.c1;have Zb := hid (zb0.now b0);have Sb := hid (sb.now b0);have R0 := hid r0;have EW := hid hW0;have G := hid b0;clear b0 hW0 za0 sa pa zb0 sb pb r0;have HV : Hid (∀ zs,val zs = val xa * val xb → iv (na != nb) zs = A * B) := fun zs e => by
  rw [← ea,← eb];cases na <;> cases nb <;> simp [iv,e,Int.mul_neg,Int.neg_mul]
 have HLt := hid (val_mul_lt Sa.out.1 Sb.out.1);clear ea eb;go_enter Tryz.func63,Tryz.ntmps63;go_wp2_with fail;rw [EW.out];clear ia0 ia1 ib0 ib1;refine (rmul_any Sa.out Sb.out (by omega) (by omega)).mono ?_;rintro e w1 ⟨zs,r,rfl,ho,hc,hv,b⟩;obtain ⟨az,cz,rfl⟩ := ho.form;have hk1 : zs.length ≤ xa.length + xb.length := zPC hc (by rw [hv];exact HLt.out);have HM := hid ho.sl;have lw := b.size;have EV := hid (HV.out zs hv);replace Pa := hid (Pa.out.step b);have ia0 := Pa.out.c0;have ia1 := Pa.out.c1;replace Pb := hid (Pb.out.step b);have ib0 := Pb.out.c0;have ib1 := Pb.out.c1;replace R0 := hid (R0.out.step b);replace G := hid (below_step G.out b);clear b ho hc hv HV HLt;go_wp2_with fail;clear ia0 ia1 ib0 ib1;have HL : Hid (Calls Tryz.prog 54 #[.bool (na != nb),.slice az zs.length cz] w1 (zbA w1 (A * B) zs.length)) := by
  unfold Hid;have q := zYE (n := na != nb) HM.out (by omega);rw [EV.out] at q;exact q
 refine (HL.out).mono ?_;rintro e w2 ⟨r,rfl,m2,b⟩;obtain ⟨n2,x2,a2,q2,rfl,-,-,-,-,-⟩ := id m2;replace R0 := hid (R0.out.step b);replace G := hid (below_step G.out b);have Z2 := hid ((m2.mono (B' := W0.heap.size) lw).more (l := ka + kb) (by omega));clear b m2;have y00 := R0.out.c0;have y01 := R0.out.c1;have f00 := R0.out.fz 0;have f01 := R0.out.fz 1;go_wp2;exact bodyPost_ret (zNB Tryz.results63 (R0.out.set _ _) _ (by rfl)) rfl (zuB (B := W0.heap.size) Z2.out G.out (by omega) (by omega))
end Go.Proofs.YtnfkibjoconphaaGreat
