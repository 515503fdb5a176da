import Derived.Test.YtnfkibjoconphaaGreatQTy9ToMt12
import Derived.Test.YtnfkibjoconphaaGreatQPure9ToWk12
set_option maxRecDepth 100000
set_option maxHeartbeats 6400000
set_option linter.unusedVariables false
set_option linter.unusedSimpArgs false
namespace Go.Proofs.YtnfkibjoconphaaGreat
open Go.RowKit
theorem Lns.rdl {B c : Nat} {w : World} {lv : Value} {gs : List Nat} {m : List (List Int)} (h : Lns B w lv c gs m) (hl : m.length ≤ 1048576) : Rdl w lv m := by
 have h0 := h;obtain ⟨a,cap,rfl,hcap,ha⟩ := h.form;refine ⟨a,cap,rfl,hcap,hl,?_⟩
 by_cases e : m.length = 0
 ·exact .inl (List.eq_nil_of_length_eq_zero e)
 ·obtain ⟨L,rfl,hBL,hLs⟩ := ha (by omega)
  refine .inr ⟨L,0,rfl,hLs,fun j xs hj => ?_⟩;have hj' : j < m.length := (List.getElem?_eq_some_iff.1 hj).1;obtain ⟨g,q1,q2,q3,q4⟩ := h0.blk hj';have e1 : rowE m j = xs := by unfold rowE;rw [List.getD_eq_getElem?_getD,hj];rfl
  rw [e1] at q3 q4;refine ⟨rowv c g,by rw [Nat.zero_add];exact (h0.line q1).1,?_⟩;have := (Row.nil12.2 q3).sw (cap := c) (by omega);rw [q4] at this;exact this
theorem zCE {p r c : Nat} {zs : List Int} (hl : zs.length = r * c) : (zHA p r c zs).flatten = resL p zs := by
 unfold zHA zQH;have key : ∀ k,k ≤ r → (((List.range k).map fun i => (zs.drop (i * c)).take c).map (resL p)).flatten = resL p (zs.take (k * c)) := by
  intro k
  induction k with
  | zero => intro _;simp [resL]
  | succ k ih =>
   intro hk;rw [List.range_succ,List.map_append,List.map_append,List.flatten_append,ih (by omega)];simp only [List.map_cons,List.map_nil,List.flatten_cons,List.flatten_nil,List.append_nil];unfold resL;rw [← List.map_append,Nat.add_mul,Nat.one_mul,List.take_add]
 rw [key r (Nat.le_refl _),List.take_of_length_le (by omega)]
theorem zWC {p : Nat} (h : gdB p = true) : IsPr p ∧ p < 2147483648 := by
 unfold gdB at h;rw [Bool.and_eq_true,decide_eq_true_eq,zBF] at h;exact ⟨h.2,h.1⟩
theorem zXC {p : Nat} (h : gdB p = true) : zNA true true p = 0 := by unfold zNA;rw [h];rfl
theorem reduceOf12 {w : World} {v : Value} {p r c : Nat} {zs : List Int} {K : Nat} (hp : gdB p = true) (h : Mx w v r c zs K) (hK : K ≤ 1099511627775) :
  Calls Tryz.prog 50 #[v,.int .u64 (p : Int)] w (zAB w r c (resL p zs) 1) := by
 obtain ⟨hpr,hp2⟩ := zWC hp;have hp1 := hpr.1;have hm0 := h;obtain ⟨a,cap,rfl,hr,hc⟩ := h.form;have hl : zs.length = r * c := by obtain ⟨_,_,_,_,_,q,_⟩ := hm0;exact q
 obtain ⟨n,hn⟩ : ∃ n,r * c = n := ⟨_,rfl⟩
 rw [hn] at hm0 ⊢;have HL := hid hl;obtain ⟨W0,hW⟩ : ∃ W0,(w.alloc (mrO (r : Int) (c : Int) a n cap)).alloc mbox = W0 := ⟨_,rfl⟩
 have b0 : Below w.heap.size w W0 := by rw [← hW];exact ((Below.refl _ _).alloc (Nat.le_refl _) _).alloc (by simp) _
 have P1 : Hid (Cel W0 w.heap.size 24 (mrC (r : Int) (c : Int) a n cap)) := by unfold Hid;rw [← hW];exact (Cel.new w _ _).step (zJA _ _).1
 have PR : Hid (Cel W0 (w.heap.size + 1) 24 [.int .i64 0,.int .i64 0,.slice none 0 0]) := by
  unfold Hid;rw [← hW];have := Cel.new (w.alloc (mrO (r : Int) (c : Int) a n cap)) 24 [.int .i64 0,.int .i64 0,.slice none 0 0]
  simpa using this
 have x0 := P1.out.at (i := 0) rfl;have x1 := P1.out.at (i := 1) rfl;have x2 := P1.out.at (i := 2) rfl;rw [← hW] at x0 x1 x2;have HF := hid (zJB (s := true) (f := true) (p := p) (hm0.now b0).chk);rw [zXC hp] at HF;have MX := hid (hm0.now b0);have G0 := hid b0;have EW := hid hW;have HKK := hid hK;obtain ⟨LL,hLL⟩ : ∃ LL,zHA p r c zs = LL := ⟨_,rfl⟩
 have HLL := hid hLL;have HRS : Hid (ResM p LL) := by unfold Hid;rw [← hLL];exact zZA (by omega)
 have HWD : Hid (WidE c LL) := by unfold Hid;rw [← hLL];exact zSA hl
 have HLN : Hid (LL.length = r) := by unfold Hid;rw [← hLL];exact zOA _ _ _ _
 have HFT : Hid (LL.flatten = resL p zs) := by unfold Hid;rw [← hLL];exact zCE hl
 obtain ⟨RS,hRS⟩ : ∃ RS,resL p zs = RS := ⟨_,rfl⟩
 rw [hRS] at HFT ⊢;clear hRS;clear b0 hW h hm0 hK hLL hl hn hpr hp;go_enter Tryz.func50,Tryz.ntmps50;go_wp2_with fail;rw [EW.out];refine HF.out.mono ?_;rintro e w1 ⟨rfl,b1⟩;have q0 : ((0 : Int) != 0) = false := rfl;replace P1 := hid (P1.out.step b1);have z0 := P1.out.at (i := 0) rfl;have z1 := P1.out.at (i := 1) rfl;have z2 := P1.out.at (i := 2) rfl;have HSH := hid (zJC hp1 hp2 (MX.out.now b1) HKK.out);rw [HLL.out] at HSH;have G1 := hid (below_step G0.out b1);replace PR := hid (PR.out.step b1);clear HF b1 x0 x1 x2 EW MX G0;go_wp2_with fail;refine HSH.out.mono ?_;rintro e w2 ⟨lv,gs,rfl,hln,b2⟩;have G2 := hid (below_step G1.out b2);have HMT := hid (zEF (p := p) (hln.rdl (by rw [HLN.out];omega)) HWD.out HRS.out hp2 HLN.out hr hc);rw [HFT.out] at HMT;replace PR := hid (PR.out.step b2);clear HSH hln b2 z0 z1 z2 G1;go_wp2_with fail;refine HMT.out.mono ?_;rintro e w5 ⟨v5,rfl,hm5,b5⟩;have PR5 := hid (PR.out.step b5);have G5 := hid (below_step G2.out b5);obtain ⟨a5,q5,rfl,-,-⟩ := hm5.mx.form;obtain ⟨la,hla⟩ : ∃ la,r * c = la := ⟨_,rfl⟩
 rw [hla] at hm5 ⊢;have FIN : Hid (zAB w r c RS 1 (.returned (.tuple #[.agg #[.int .i64 (r : Int),.int .i64 (c : Int),.slice a5 la q5],.int .i64 0])) (put3 w5 (w.heap.size + 1) (.int .i64 (r : Int)) (.int .i64 (c : Int)) (.slice a5 la q5))) :=
  ⟨_,rfl,hm5.wk PR5.out _ _ _,zWA G5.out (by omega) _ _ _⟩
 have PF := hid (PR5.out.put3 (.int .i64 (r : Int)) (.int .i64 (c : Int)) (.slice a5 la q5));have r0 := PR5.out.at (i := 0) rfl;have r1 := PR5.out.at (i := 1) rfl;have r2 := PR5.out.at (i := 2) rfl;have f0 := PR5.out.fz 0;have f1 := PR5.out.fz 1;have f2 := PR5.out.fz 2;clear hm5 PR5 G5 b5 PR G2 HMT;go_wp2;exact bodyPost_ret (zwC Tryz.results50 PF.out _ (by rfl) (by rfl)) rfl FIN.out
theorem zAI {w : World} {v : Value} {p r c : Nat} {zs : List Int} {K : Nat} (hp : gdB p = true) (h : Mx w v r c zs K) (hK : K ≤ 1099511627775) :
  Calls Tryz.prog 10 #[v,.int .u64 (p : Int)] w (fun e w' => e = .returned (.tuple #[.int .i64 ((zUA p (zHA p r c zs) c).pv.length : Int),.int .i64 0]) ∧ Below w.heap.size w w') := by
 obtain ⟨hpr,hp2⟩ := zWC hp;have hp1 := hpr.1;have hm0 := h;obtain ⟨a,cap,rfl,hr,hc⟩ := h.form;have hl : zs.length = r * c := by obtain ⟨_,_,_,_,_,q,_⟩ := hm0;exact q
 obtain ⟨n,hn⟩ : ∃ n,r * c = n := ⟨_,rfl⟩
 rw [hn] at hm0 ⊢;have HL := hid hl;obtain ⟨W0,hW⟩ : ∃ W0,w.alloc (mrO (r : Int) (c : Int) a n cap) = W0 := ⟨_,rfl⟩
 have b0 : Below w.heap.size w W0 := by rw [← hW];exact (zJA _ _).1
 have P1 : Hid (Cel W0 w.heap.size 24 (mrC (r : Int) (c : Int) a n cap)) := by unfold Hid;rw [← hW];exact Cel.new w _ _
 have x0 := P1.out.at (i := 0) rfl;have x1 := P1.out.at (i := 1) rfl;have x2 := P1.out.at (i := 2) rfl;rw [← hW] at x0 x1 x2;have HF := hid (zJB (s := true) (f := true) (p := p) (hm0.now b0).chk);rw [zXC hp] at HF;have MX := hid (hm0.now b0);have G0 := hid b0;have EW := hid hW;have HKK := hid hK;obtain ⟨LL,hLL⟩ : ∃ LL,zHA p r c zs = LL := ⟨_,rfl⟩
 have HLL := hid hLL;have HRS : Hid (ResM p LL) := by unfold Hid;rw [← hLL];exact zZA (by omega)
 have HWD : Hid (WidE c LL) := by unfold Hid;rw [← hLL];exact zSA hl
 have HLN : Hid (LL.length = r) := by unfold Hid;rw [← hLL];exact zOA _ _ _ _
 obtain ⟨S,hS⟩ : ∃ S,zUA p LL c = S := ⟨_,rfl⟩
 have HSS := hid hS;rw [hLL,hS];clear hS;clear b0 hW h hm0 hK hLL hl hn hpr hp;go_enter Tryz.func10,Tryz.ntmps10;go_wp2_with fail;rw [EW.out];refine HF.out.mono ?_;rintro e w1 ⟨rfl,b1⟩;have q0 : ((0 : Int) != 0) = false := rfl;replace P1 := hid (P1.out.step b1);have z0 := P1.out.at (i := 0) rfl;have z1 := P1.out.at (i := 1) rfl;have z2 := P1.out.at (i := 2) rfl;have HSH := hid (zJC hp1 hp2 (MX.out.now b1) HKK.out);rw [HLL.out] at HSH;have G1 := hid (below_step G0.out b1)
 skip
 clear HF b1 x0 x1 x2 EW MX G0;go_wp2_with fail;refine HSH.out.mono ?_;rintro e w2 ⟨lv,gs,rfl,hln,b2⟩;have G2 := hid (below_step G1.out b2);have HRD := hid (zeD hp1 hp2 hln HRS.out HLN.out hr (by omega) b2.size);obtain ⟨la,lcap,rfl,-,-⟩ := hln.form;have LE : Hid (w.heap.size ≤ w1.heap.size) := hid G1.out.size;clear HSH hln b2 z0 z1 z2 G1;go_wp2_with fail;refine HRD.out.mono ?_;rintro e w5 ⟨pvv,gs9,rfl,hpv,hln9,b9⟩;rw [HSS.out] at hpv ⊢;obtain ⟨pa,pcap,rfl,-⟩ := hpv.form;have G9 : Hid (Below w.heap.size w w5) := by
  unfold Hid;exact G2.out.trans (b9.1.mono LE.out)
 clear HRD hpv hln9 b9 G2 LE;go_wp2;go_ret2;exact ⟨rfl,G9.out⟩
theorem echelon12 {w : World} {v : Value} {p r c : Nat} {zs : List Int} {K : Nat} (hp : gdB p = true) (h : Mx w v r c zs K) (hK : K ≤ 1099511627775) :
  Calls Tryz.prog 11 #[v,.int .u64 (p : Int)] w (zAB w r c (zUA p (zHA p r c zs) c).m.flatten 1) := by
 obtain ⟨hpr,hp2⟩ := zWC hp;have hp1 := hpr.1;have hm0 := h;obtain ⟨a,cap,rfl,hr,hc⟩ := h.form;have hl : zs.length = r * c := by obtain ⟨_,_,_,_,_,q,_⟩ := hm0;exact q
 obtain ⟨n,hn⟩ : ∃ n,r * c = n := ⟨_,rfl⟩
 rw [hn] at hm0 ⊢;have HL := hid hl;obtain ⟨W0,hW⟩ : ∃ W0,(w.alloc (mrO (r : Int) (c : Int) a n cap)).alloc mbox = W0 := ⟨_,rfl⟩
 have b0 : Below w.heap.size w W0 := by rw [← hW];exact ((Below.refl _ _).alloc (Nat.le_refl _) _).alloc (by simp) _
 have P1 : Hid (Cel W0 w.heap.size 24 (mrC (r : Int) (c : Int) a n cap)) := by unfold Hid;rw [← hW];exact (Cel.new w _ _).step (zJA _ _).1
 have PR : Hid (Cel W0 (w.heap.size + 1) 24 [.int .i64 0,.int .i64 0,.slice none 0 0]) := by
  unfold Hid;rw [← hW];have := Cel.new (w.alloc (mrO (r : Int) (c : Int) a n cap)) 24 [.int .i64 0,.int .i64 0,.slice none 0 0]
  simpa using this
 have x0 := P1.out.at (i := 0) rfl;have x1 := P1.out.at (i := 1) rfl;have x2 := P1.out.at (i := 2) rfl;rw [← hW] at x0 x1 x2;have HF := hid (zJB (s := true) (f := true) (p := p) (hm0.now b0).chk);rw [zXC hp] at HF;have MX := hid (hm0.now b0);have G0 := hid b0;have EW := hid hW;have HKK := hid hK;obtain ⟨LL,hLL⟩ : ∃ LL,zHA p r c zs = LL := ⟨_,rfl⟩
 have HLL := hid hLL;have HRS : Hid (ResM p LL) := by unfold Hid;rw [← hLL];exact zZA (by omega)
 have HWD : Hid (WidE c LL) := by unfold Hid;rw [← hLL];exact zSA hl
 have HLN : Hid (LL.length = r) := by unfold Hid;rw [← hLL];exact zOA _ _ _ _
 obtain ⟨S,hS⟩ : ∃ S,zUA p LL c = S := ⟨_,rfl⟩
 have HSS := hid hS;have OKS : Hid (Ok12 p c c r S) := by unfold Hid;rw [← hS];exact Ok12.red hp1 HWD.out HRS.out HLN.out c
 rw [hLL,hS];clear hS;clear b0 hW h hm0 hK hLL hl hn hpr hp;go_enter Tryz.func11,Tryz.ntmps11;go_wp2_with fail;rw [EW.out];refine HF.out.mono ?_;rintro e w1 ⟨rfl,b1⟩;have q0 : ((0 : Int) != 0) = false := rfl;replace P1 := hid (P1.out.step b1);have z0 := P1.out.at (i := 0) rfl;have z1 := P1.out.at (i := 1) rfl;have z2 := P1.out.at (i := 2) rfl;have HSH := hid (zJC hp1 hp2 (MX.out.now b1) HKK.out);rw [HLL.out] at HSH;have G1 := hid (below_step G0.out b1);replace PR := hid (PR.out.step b1);clear HF b1 x0 x1 x2 EW MX G0;go_wp2_with fail;refine HSH.out.mono ?_;rintro e w2 ⟨lv,gs,rfl,hln,b2⟩;have G2 := hid (below_step G1.out b2);have HRD := fun wx (hb : Below w2.heap.size w2 wx) => zeD hp1 hp2 (hln.now hb) HRS.out HLN.out hr (by omega) (Nat.le_trans b2.size hb.size)
 obtain ⟨la,lcap,rfl,-,-⟩ := hln.form;rw [HLN.out] at HRD ⊢;obtain ⟨V,hV⟩ : ∃ V,w2.alloc (shO p c (.slice la r lcap)) = V := ⟨_,rfl⟩
 obtain ⟨bV,szV⟩ := zJA w2 (shO p c (.slice la r lcap));rw [hV] at bV szV;have PB : Hid (Cel V w2.heap.size 67 (shc p c (.slice la r lcap))) := by unfold Hid;rw [← hV];exact Cel.new w2 _ _
 have HR2 := hid (HRD V bV);have y0 := PB.out.at (i := 0) rfl;have y1 := PB.out.at (i := 1) rfl;have y2 := PB.out.at (i := 2) rfl;rw [← hV] at y0 y1 y2;have EV := hid hV;have GV := hid (below_step G2.out bV);have LE : Hid (w.heap.size + 1 < w1.heap.size) := hid (by have := PR.out.blk;omega);have LE2 : Hid (w1.heap.size ≤ w2.heap.size) := hid b2.size;replace PR := hid (PR.out.step (below_step b2 bV));have SBX : Hid (w2.heap.size < V.heap.size) := hid (by omega);clear HSH hln b2 z0 z1 z2 G1 G2 HRD bV szV hV;go_wp2_with fail;rw [EV.out];refine HR2.out.mono ?_;rintro e w4 ⟨pvv,gs9,rfl,hpv,hln9,b9⟩;rw [HSS.out] at hln9 ⊢;obtain ⟨pa,pcap,rfl,-⟩ := hpv.form;have G4 : Hid (Below w.heap.size w w4) := by
  unfold Hid;exact GV.out.trans (b9.1.mono (by have := LE.out;omega))
 have PR4 : Hid (Cel w4 (w.heap.size + 1) 24 [.int .i64 0,.int .i64 0,.slice none 0 0]) := hid ((b9.1.block _ LE.out).trans PR.out);have HMT := hid (zEF (p := p) (hln9.rdl (by rw [OKS.out.len];omega)) OKS.out.wid OKS.out.res hp2 OKS.out.len hr hc);have PBW : Hid (Cel w4 w2.heap.size 67 (shc p c (.slice la r lcap))) := hid (b9.2 _ _ _ PB.out (by decide) (by decide));have u0 := PBW.out.at (i := 0) rfl;have u1 := PBW.out.at (i := 1) rfl;have u2 := PBW.out.at (i := 2) rfl;clear HR2 hpv hln9 b9 y0 y1 y2 EV GV LE LE2 SBX PR PB;go_wp2_with fail;refine HMT.out.mono ?_;rintro e w5 ⟨v5,rfl,hm5,b5⟩;have PR5 := hid (PR4.out.step b5);have G5 := hid (below_step G4.out b5);obtain ⟨a5,q5,rfl,-,-⟩ := hm5.mx.form;obtain ⟨la,hla⟩ : ∃ la,r * c = la := ⟨_,rfl⟩
 rw [hla] at hm5 ⊢;have FIN : Hid (zAB w r c S.m.flatten 1 (.returned (.tuple #[.agg #[.int .i64 (r : Int),.int .i64 (c : Int),.slice a5 la q5],.int .i64 0])) (put3 w5 (w.heap.size + 1) (.int .i64 (r : Int)) (.int .i64 (c : Int)) (.slice a5 la q5))) :=
  ⟨_,rfl,hm5.wk PR5.out _ _ _,zWA G5.out (by omega) _ _ _⟩
 have PF := hid (PR5.out.put3 (.int .i64 (r : Int)) (.int .i64 (c : Int)) (.slice a5 la q5));have r0 := PR5.out.at (i := 0) rfl;have r1 := PR5.out.at (i := 1) rfl;have r2 := PR5.out.at (i := 2) rfl;have f0 := PR5.out.fz 0;have f1 := PR5.out.fz 1;have f2 := PR5.out.fz 2;clear hm5 PR5 G5 b5 PR4 G4 HMT;go_wp2;exact bodyPost_ret (zwC Tryz.results11 PF.out _ (by rfl) (by rfl)) rfl FIN.out
end Go.Proofs.YtnfkibjoconphaaGreat
