/-
 QCa12ToWq12: Ca12, Wo12, Wq12, joined.
-/
import Derived.Test.YtkklldokdnfkgaaGreatQMt12ToDt12
import Derived.Test.YtkklldokdnfkgaaGreatQBu12ToIx12
import Derived.Test.YtkklldokdnfkgaaGreatQBs12ToLin12
import Derived.Test.YtkklldokdnfkgaaGreatQDim12ToBr12

set_option maxRecDepth 100000
set_option maxHeartbeats 6400000
set_option linter.unusedVariables false
set_option linter.unusedSimpArgs false
namespace Go.Proofs.YtkklldokdnfkgaaGreat
open Go.RowKit
theorem linesL_flat {p r c : Nat} {zs : List Int} (hl : zs.length = r * c) : (zLA p r c zs).flatten = resL p zs := by
 unfold zLA zWH;have key : ∀ k,k ≤ r → (((List.range k).map fun i => (zs.drop (i * c)).take c).map (resL p)).flatten = resL p (zs.take (k * c)) := by
  intro k
  induction k with
  | zero => intro _;simp [resL]
  | succ k ih =>
   intro hk;rw [List.range_succ,List.map_append,List.map_append,List.flatten_append,ih (by omega)];simp only [List.map_cons,List.map_nil,List.flatten_cons,List.flatten_nil,List.append_nil];unfold resL;rw [← List.map_append,Nat.add_mul,Nat.one_mul,List.take_add]
 rw [key r (Nat.le_refl _),List.take_of_length_le (by omega)]
theorem zXC {p : Nat} (h : gdB p = true) : IsPr p ∧ p < 2147483648 := by
 unfold gdB at h;rw [Bool.and_eq_true,decide_eq_true_eq,zyE] at h;exact ⟨h.2,h.1⟩
theorem zOD {p : Nat} (h : gdB p = true) : zDD true true p = 0 := by unfold zDD;rw [h];rfl
theorem zOI {w : World} {v : Value} {p r c : Nat} {zs : List Int} {K : Nat} (hp : gdB p = true) (h : Mx w v r c zs K) (hK : K ≤ 1099511627775) :
  Calls Tryz.prog 12 #[v,.int .u64 (p : Int)] w (fun e w' => e = .returned (.tuple #[.int .i64 ((zXA p (zLA p r c zs) c).pv.length : Int),.int .i64 0]) ∧ Below w.heap.size w w') := by
 obtain ⟨hpr,hp2⟩ := zXC hp;have hp1 := hpr.1;have hm0 := h;obtain ⟨a,cap,rfl,hr,hc⟩ := h.form;have hl : zs.length = r * c := by obtain ⟨_,_,_,_,_,q,_⟩ := hm0;exact q
 obtain ⟨n,hn⟩ : ∃ n,r * c = n := ⟨_,rfl⟩
 rw [hn] at hm0 ⊢;have HL := hid hl;obtain ⟨W0,hW⟩ : ∃ W0,w.alloc (mrO (r : Int) (c : Int) a n cap) = W0 := ⟨_,rfl⟩
 have b0 : Below w.heap.size w W0 := by rw [← hW];exact (zVA _ _).1
 have P1 : Hid (Cel W0 w.heap.size 24 (mrC (r : Int) (c : Int) a n cap)) := by unfold Hid;rw [← hW];exact Cel.new w _ _
 have x0 := P1.out.at (i := 0) rfl;have x1 := P1.out.at (i := 1) rfl;have x2 := P1.out.at (i := 2) rfl;rw [← hW] at x0 x1 x2;have HF := hid (zIE (s := true) (f := true) (p := p) (hm0.now b0).chk);rw [zOD hp] at HF;have MX := hid (hm0.now b0);have G0 := hid b0;have EW := hid hW;have HKK := hid hK;obtain ⟨LL,hLL⟩ : ∃ LL,zLA p r c zs = LL := ⟨_,rfl⟩
 have HLL := hid hLL;have HRS : Hid (ResM p LL) := by unfold Hid;rw [← hLL];exact zhA (by omega)
 have HWD : Hid (WidE c LL) := by unfold Hid;rw [← hLL];exact zWA hl
 have HLN : Hid (LL.length = r) := by unfold Hid;rw [← hLL];exact zPA _ _ _ _
 obtain ⟨S,hS⟩ : ∃ S,zXA p LL c = S := ⟨_,rfl⟩
 have HSS := hid hS;rw [hLL,hS];clear hS;clear b0 hW h hm0 hK hLL hl hn hpr hp;go_enter Tryz.func12,Tryz.ntmps12;go_wp2_with fail;rw [EW.out];refine HF.out.mono ?_;rintro e w1 ⟨rfl,b1⟩;have q0 : ((0 : Int) != 0) = false := rfl;replace P1 := hid (P1.out.step b1);have z0 := P1.out.at (i := 0) rfl;have z1 := P1.out.at (i := 1) rfl;have z2 := P1.out.at (i := 2) rfl;have HSH := hid (zxC hp1 hp2 (MX.out.now b1) HKK.out);rw [HLL.out] at HSH;have G1 := hid (below_step G0.out b1)
 skip
 clear HF b1 x0 x1 x2 EW MX G0;go_wp2_with fail;refine HSH.out.mono ?_;rintro e w2 ⟨lv,gs,rfl,hln,b2⟩;have G2 := hid (below_step G1.out b2);have HRD := hid (zfD hp1 hp2 hln HRS.out HLN.out hr (by omega) b2.size);obtain ⟨la,lcap,rfl,-,-⟩ := hln.form;have LE : Hid (w.heap.size ≤ w1.heap.size) := hid G1.out.size;clear HSH hln b2 z0 z1 z2 G1;go_wp2_with fail;refine HRD.out.mono ?_;rintro e w5 ⟨pvv,gs9,rfl,hpv,hln9,b9⟩;rw [HSS.out] at hpv ⊢;obtain ⟨pa,pcap,rfl,-⟩ := hpv.form;have G9 : Hid (Below w.heap.size w w5) := by
  unfold Hid;exact G2.out.trans (b9.1.mono LE.out)
 clear HRD hpv hln9 b9 G2 LE;go_wp2;go_ret2;exact ⟨rfl,G9.out⟩
theorem zVC {c r : Nat} {ms : List (List Int)} (h : WidE c ms) (hl : ms.length = r) : WidE (c + r) (zDB r ms) := fun l hm => by
 obtain ⟨i,hi,rfl⟩ := List.mem_map.1 hm;rw [List.length_append,zUG,h.at (by rw [hl];exact List.mem_range.1 hi)]
theorem uniR_res {p : Nat} (hp : 2 ≤ p) (r i : Nat) : Res p (uniR r i) := fun x hx => by
 obtain ⟨j,_,rfl⟩ := List.mem_map.1 hx
 split <;> exact ⟨by omega,by omega⟩
theorem zlB {p r : Nat} {ms : List (List Int)} (hp : 2 ≤ p) (h : ResM p ms) : ResM p (zDB r ms) := fun l hm => by
 obtain ⟨i,hi,rfl⟩ := List.mem_map.1 hm;intro x hx;rcases List.mem_append.1 hx with q | q
 ·exact h.at i x q
 ·exact uniR_res hp r i x q
def wkS (p r c : Nat) (zs : List Int) : St12 := zXA p (zDB r (zLA p r c zs)) (c + r)
def wkR (p r c : Nat) (zs : List Int) : Nat := cntB (wkS p r c zs).pv c
theorem zUE {p r c : Nat} {zs : List Int} (hp : 2 ≤ p) (hl : zs.length = r * c) : Ok12 p (c + r) (c + r) r (wkS p r c zs) :=
 Ok12.red hp (zVC (zWA hl) (zPA _ _ _ _)) (zlB hp (zhA (by omega))) (zCB _ _) (c + r)
theorem zqC {p r c : Nat} {zs : List Int} (hp : IsPr p) (hl : zs.length = r * c) : (wkS p r c zs).pv.Pairwise (· < ·) := by
 have hp2 := hp.1
 haveI : NeZero p := ⟨by omega⟩
 exact (zyC hp (zVC (zWA hl) (zPA _ _ _ _)) (zlB hp2 (zhA (by omega))) (zCB _ _) (c + r) (Nat.le_refl _)).1.sorted
theorem zLI {f : Func} {s1 s3 : Nat} (hr : f.results = #[ResultVar.cell s1 54,ResultVar.tmp s3]) {W : World} {b : Nat} {x0 x1 x2 e : Value} (h : Cel W b 54 [x0,x1,x2]) (tmps : Array Value) (ht : tmps[s1]? = some (.pointer (some ⟨b,0,none⟩))) (he : tmps[s3]? = some e) :
  (results f tmps).run Tryz.prog W = .ok (.tuple #[.agg #[x0,x1,x2],e]) W := by
 simp [results,hr,go_sem,ht,he,h.at (i := 0) rfl,h.at (i := 1) rfl,h.at (i := 2) rfl]
def zrF (w : World) (p r c : Nat) (zs : List Int) (e : Ending) (w' : World) : Prop :=
 ∃ lv gs pa pcap,e = .returned (.tuple #[shv p (c + r) lv,.slice pa (wkR p r c zs) pcap]) ∧ Lns w.heap.size w' lv (c + r) gs (wkS p r c zs).m ∧ Below w.heap.size w w'
theorem worked12 {w : World} {v : Value} {p r c : Nat} {zs : List Int} {K : Nat} (hp : gdB p = true) (h : Mx w v r c zs K) (hK : K ≤ 1099511627775) :
  Calls Tryz.prog 20 #[v,.int .u64 (p : Int)] w (zrF w p r c zs) := by
 obtain ⟨hpr,hp2⟩ := zXC hp;have hp1 := hpr.1;have hm0 := h;obtain ⟨a,cap,rfl,hr,hc⟩ := h.form;have hl : zs.length = r * c := by obtain ⟨_,_,_,_,_,q,_⟩ := hm0;exact q
 have OKS := hid (zUE (p := p) (c := c) (r := r) hp1 hl);have SRT := hid (zqC (p := p) hpr hl);obtain ⟨n,hn⟩ : ∃ n,r * c = n := ⟨_,rfl⟩
 rw [hn] at hm0 ⊢;obtain ⟨W0,hW⟩ : ∃ W0,(w.alloc (mrO (r : Int) (c : Int) a n cap)).alloc shz = W0 := ⟨_,rfl⟩
 have b0 : Below w.heap.size w W0 := by rw [← hW];exact ((Below.refl _ _).alloc (Nat.le_refl _) _).alloc (by simp) _
 have sz0 : W0.heap.size = w.heap.size + 2 := by rw [← hW];simp
 have P1 : Hid (Cel W0 w.heap.size 24 (mrC (r : Int) (c : Int) a n cap)) := by unfold Hid;rw [← hW];exact (Cel.new w _ _).step (zVA _ _).1
 have PR : Hid (Cel W0 (w.heap.size + 1) 54 [.int .u64 0,.int .i64 0,.slice none 0 0]) := by
  unfold Hid;rw [← hW];have := Cel.new (w.alloc (mrO (r : Int) (c : Int) a n cap)) 54 [.int .u64 0,.int .i64 0,.slice none 0 0]
  simpa using this
 have x0 := P1.out.at (i := 0) rfl;have x1 := P1.out.at (i := 1) rfl;have x2 := P1.out.at (i := 2) rfl;rw [← hW] at x0 x1 x2;have HSH := hid (zxC hp1 hp2 (hm0.now b0) hK);have G0 := hid b0;have EW := hid hW;have SZ := hid sz0;obtain ⟨LL,hLL⟩ : ∃ LL,zLA p r c zs = LL := ⟨_,rfl⟩
 have HLN : Hid (LL.length = r) := by unfold Hid;rw [← hLL];exact zPA _ _ _ _
 obtain ⟨ML,hML⟩ : ∃ ML,zDB r LL = ML := ⟨_,rfl⟩
 have HRS : Hid (ResM p ML) := by unfold Hid;rw [← hML,← hLL];exact zlB hp1 (zhA (by omega))
 have HMN : Hid (ML.length = r) := by unfold Hid;rw [← hML];exact zCB _ _
 obtain ⟨N,hN⟩ : ∃ N,c + r = N := ⟨_,rfl⟩
 have HNN := hid hN;have HS : Hid (wkS p r c zs = zXA p ML N) := by unfold Hid wkS;rw [hLL,hML,hN]
 obtain ⟨S,hS⟩ : ∃ S,wkS p r c zs = S := ⟨_,rfl⟩
 obtain ⟨rk,hrk⟩ : ∃ rk,wkR p r c zs = rk := ⟨_,rfl⟩
 have HRK : Hid (cntB S.pv c = rk) := by unfold Hid;rw [← hrk,← hS];rfl
 rw [hS] at OKS SRT HS;have HPL : Hid (S.pv.length ≤ r) := OKS.out.piv;have HRL : Hid (rk ≤ S.pv.length) := by unfold Hid;rw [← HRK.out];exact zNC _ _
 have HBU := hML;have HWK : Hid (∀ e w',(∃ lv gs pa pcap,e = .returned (.tuple #[shv p N lv,.slice pa rk pcap]) ∧ Lns w.heap.size w' lv N gs S.m ∧ Below w.heap.size w w') → zrF w p r c zs e w') := fun e w' q => by
  unfold zrF;rw [hN,hrk,hS];exact q
 rw [hLL] at HSH;clear b0 hW h hm0 hK hLL hl hn hpr hp hS hrk sz0 hN;refine Calls.mono ?_ (fun e w' q => HWK.out e w' q);clear HWK;go_enter Tryz.func20,Tryz.ntmps20;go_wp2_with fail;rw [EW.out];refine HSH.out.mono ?_;rintro e w1 ⟨lv,gs,rfl,hln,b1⟩;have HB := hid (zbD (p := p) hln HLN.out hr hc);rw [HBU,HNN.out] at HB;obtain ⟨la,lcap,rfl,-,-⟩ := hln.form;replace P1 := hid (P1.out.step b1);replace PR := hid (PR.out.step b1);have G1 := hid (below_step G0.out b1);have L1 : Hid (w.heap.size + 2 ≤ w1.heap.size) := by unfold Hid;have := SZ.out;have := b1.size;omega
 clear HSH hln b1 x0 x1 x2 EW G0 SZ HBU;go_wp2_with fail;refine HB.out.mono ?_;rintro e w2 ⟨lv2,gs2,rfl,hln2,b2⟩;obtain ⟨la2,lcap2,rfl,-,-⟩ := hln2.form;rw [HMN.out] at hln2 ⊢;obtain ⟨V,hV⟩ : ∃ V,w2.alloc (shO p N (.slice la2 r lcap2)) = V := ⟨_,rfl⟩
 obtain ⟨b3,sz3⟩ := zVA w2 (shO p N (.slice la2 r lcap2));rw [hV] at b3 sz3;have PV : Hid (Cel V w2.heap.size 54 (shc p N (.slice la2 r lcap2))) := by unfold Hid;rw [← hV];exact Cel.new _ _ _
 replace P1 := hid ((P1.out.step b2).step b3);replace PR := hid ((PR.out.step b2).step b3);have G3 := hid (below_step (below_step G1.out b2) b3);have HRD := hid (zfD hp1 hp2 (hln2.now b3) HRS.out HMN.out hr (by have := HNN.out;omega) (Nat.le_trans b2.size b3.size));have L2 : Hid (w1.heap.size ≤ w2.heap.size) := b2.size;have y0 := PV.out.at (i := 0) rfl;have y1 := PV.out.at (i := 1) rfl;have y2 := PV.out.at (i := 2) rfl;rw [← hV] at y0 y1 y2;have EV := hid hV;clear HB hln2 b2 b3 sz3 hV G1;go_wp2_with fail;rw [EV.out];refine HRD.out.mono ?_;rintro e w5 ⟨pvv,gs9,rfl,hpv,hln9,b9⟩;rw [← HS.out] at hpv hln9 ⊢;replace P1 := hid (b9.2 _ _ _ P1.out (by decide) (by decide));replace PR := hid (b9.2 _ _ _ PR.out (by decide) (by decide));replace PV := hid (b9.2 _ _ _ PV.out (by decide) (by decide));have G5 : Hid (Below w.heap.size w w5) := by
  unfold Hid;exact G3.out.trans (b9.1.mono (by have := L1.out;omega))
 have HSE := hid (zaG (x := c) hpv SRT.out (by have := HPL.out;omega));rw [HRK.out] at HSE;obtain ⟨pa,pcap,rfl,hpc⟩ := hpv.form;have LN := hid hln9;have z1 := P1.out.at (i := 1) rfl;have HPA : Hid (∃ a2 cap2,∀ wx,(Instr.slice 32 (.slice pa S.pv.length pcap) none (some (.int .i64 (rk : Int))) none).run Tryz.prog wx = .ok (.slice a2 rk cap2) wx) := by
  unfold Hid;have h1 := HRL.out;have i1 : (0 : Int) ≤ (rk : Int) := by omega
  have i2 : (rk : Int) ≤ (pcap : Int) := by omega
  obtain ⟨q1,⟨q2,q3⟩ | ⟨g,cp,cur,q2,q3,q4,q5,q6⟩⟩ := hpv
  ·simp only [Value.slice.injEq] at q2
   obtain ⟨rfl,-,rfl⟩ := q2;obtain rfl : rk = 0 := by omega
   refine ⟨none,0,fun wx => ?_⟩;go_simp
  ·simp only [Value.slice.injEq] at q2
   obtain ⟨rfl,-,rfl⟩ := q2;refine ⟨some ⟨g,0,none⟩,pcap,fun wx => ?_⟩;go_simp
 obtain ⟨a2,cap2,hsl⟩ := HPA.out;clear HRD hpv hln9 b9 G3 EV y0 y1 y2 HPA;go_wp2_with fail;refine HSE.out.mono ?_;rintro e w6 ⟨fl,rfl,b6⟩;replace PR := hid (PR.out.step b6);replace PV := hid (PV.out.step b6);have G6 := hid (below_step G5.out b6);have LN6 := hid (LN.out.now b6);have y0 := PV.out.at (i := 0) rfl;have y1 := PV.out.at (i := 1) rfl;have y2 := PV.out.at (i := 2) rfl;have r0 := PR.out.at (i := 0) rfl;have r1 := PR.out.at (i := 1) rfl;have r2 := PR.out.at (i := 2) rfl;have f0 := PR.out.fz 0;have f1 := PR.out.fz 1;have f2 := PR.out.fz 2;obtain ⟨X,hX⟩ : ∃ X,(put3 w6 (w.heap.size + 1) (.int .u64 (p : Int)) (.int .i64 (N : Int)) (.slice la2 r lcap2)).drew = X := ⟨_,rfl⟩
 have bX : Below (put3 w6 (w.heap.size + 1) (.int .u64 (p : Int)) (.int .i64 (N : Int)) (.slice la2 r lcap2)).heap.size (put3 w6 (w.heap.size + 1) (.int .u64 (p : Int)) (.int .i64 (N : Int)) (.slice la2 r lcap2)) X := by rw [← hX];exact (Below.refl _ _).drew
 have FIN : Hid (∃ lv gs pa pcap,Ending.returned (.tuple #[shv p N (.slice la2 r lcap2),.slice a2 rk cap2]) = .returned (.tuple #[shv p N lv,.slice pa rk pcap]) ∧ Lns w.heap.size X lv N gs S.m ∧ Below w.heap.size w X) :=
  ⟨_,gs9,_,_,rfl,((((LN6.out.box PR.out (by decide) (by decide)).box (PR.out.set 0 _) (by decide) (by decide)).box ((PR.out.set 0 _).set 1 _) (by decide) (by decide)).now bX).mono (by have := L1.out;omega),below_step (zgA G6.out (by omega) _ _ _) bX⟩
 have PF := hid ((PR.out.put3 (.int .u64 (p : Int)) (.int .i64 (N : Int)) (.slice la2 r lcap2)).step bX);have EX := hid hX;clear HSE LN G5 b6 z1 P1 LN6 G6 PR PV hX bX;go_wp2_with fail;go_region
 all_goals rw [EX.out]
 all_goals go_wp2
 all_goals exact bodyPost_ret (zLI Tryz.results20 PF.out _ (by rfl) (by rfl)) rfl FIN.out
def zRE (w : World) (p r c : Nat) (zs : List Int) (e : Ending) (w' : World) : Prop :=
 ∃ lv gs pa pcap,e = .returned (.tuple #[shv p (c + r) lv,.slice pa (wkR p r c zs) pcap]) ∧ Lns w.heap.size w' lv (c + r) gs (wkS p r c zs).m ∧ (∀ i,i < wkR p r c zs → ∃ L,pa = some ⟨L,0,none⟩ ∧ w'.cell? ⟨L,i,none⟩ = some (.int .i64 ((wkS p r c zs).pv.getD i 0 : Nat))) ∧ Below w.heap.size w w'
theorem workedp12 {w : World} {v : Value} {p r c : Nat} {zs : List Int} {K : Nat} (hp : gdB p = true) (h : Mx w v r c zs K) (hK : K ≤ 1099511627775) :
  Calls Tryz.prog 20 #[v,.int .u64 (p : Int)] w (zRE w p r c zs) := by
 obtain ⟨hpr,hp2⟩ := zXC hp;have hp1 := hpr.1;have hm0 := h;obtain ⟨a,cap,rfl,hr,hc⟩ := h.form;have hl : zs.length = r * c := by obtain ⟨_,_,_,_,_,q,_⟩ := hm0;exact q
 have OKS := hid (zUE (p := p) (c := c) (r := r) hp1 hl);have SRT := hid (zqC (p := p) hpr hl);obtain ⟨n,hn⟩ : ∃ n,r * c = n := ⟨_,rfl⟩
 rw [hn] at hm0 ⊢;obtain ⟨W0,hW⟩ : ∃ W0,(w.alloc (mrO (r : Int) (c : Int) a n cap)).alloc shz = W0 := ⟨_,rfl⟩
 have b0 : Below w.heap.size w W0 := by rw [← hW];exact ((Below.refl _ _).alloc (Nat.le_refl _) _).alloc (by simp) _
 have sz0 : W0.heap.size = w.heap.size + 2 := by rw [← hW];simp
 have P1 : Hid (Cel W0 w.heap.size 24 (mrC (r : Int) (c : Int) a n cap)) := by unfold Hid;rw [← hW];exact (Cel.new w _ _).step (zVA _ _).1
 have PR : Hid (Cel W0 (w.heap.size + 1) 54 [.int .u64 0,.int .i64 0,.slice none 0 0]) := by
  unfold Hid;rw [← hW];have := Cel.new (w.alloc (mrO (r : Int) (c : Int) a n cap)) 54 [.int .u64 0,.int .i64 0,.slice none 0 0]
  simpa using this
 have x0 := P1.out.at (i := 0) rfl;have x1 := P1.out.at (i := 1) rfl;have x2 := P1.out.at (i := 2) rfl;rw [← hW] at x0 x1 x2;have HSH := hid (zxC hp1 hp2 (hm0.now b0) hK);have G0 := hid b0;have EW := hid hW;have SZ := hid sz0;obtain ⟨LL,hLL⟩ : ∃ LL,zLA p r c zs = LL := ⟨_,rfl⟩
 have HLN : Hid (LL.length = r) := by unfold Hid;rw [← hLL];exact zPA _ _ _ _
 obtain ⟨ML,hML⟩ : ∃ ML,zDB r LL = ML := ⟨_,rfl⟩
 have HRS : Hid (ResM p ML) := by unfold Hid;rw [← hML,← hLL];exact zlB hp1 (zhA (by omega))
 have HMN : Hid (ML.length = r) := by unfold Hid;rw [← hML];exact zCB _ _
 obtain ⟨N,hN⟩ : ∃ N,c + r = N := ⟨_,rfl⟩
 have HNN := hid hN;have HS : Hid (wkS p r c zs = zXA p ML N) := by unfold Hid wkS;rw [hLL,hML,hN]
 obtain ⟨S,hS⟩ : ∃ S,wkS p r c zs = S := ⟨_,rfl⟩
 obtain ⟨rk,hrk⟩ : ∃ rk,wkR p r c zs = rk := ⟨_,rfl⟩
 have HRK : Hid (cntB S.pv c = rk) := by unfold Hid;rw [← hrk,← hS];rfl
 rw [hS] at OKS SRT HS;have HPL : Hid (S.pv.length ≤ r) := OKS.out.piv;have HRL : Hid (rk ≤ S.pv.length) := by unfold Hid;rw [← HRK.out];exact zNC _ _
 have HBU := hML;have HWK : Hid (∀ e w',(∃ lv gs pa pcap,e = .returned (.tuple #[shv p N lv,.slice pa rk pcap]) ∧ Lns w.heap.size w' lv N gs S.m ∧ (∀ i,i < rk → ∃ L,pa = some ⟨L,0,none⟩ ∧ w'.cell? ⟨L,i,none⟩ = some (.int .i64 (S.pv.getD i 0 : Nat))) ∧ Below w.heap.size w w') → zRE w p r c zs e w') := fun e w' q => by
  unfold zRE;rw [hN,hrk,hS];exact q
 rw [hLL] at HSH;clear b0 hW h hm0 hK hLL hl hn hpr hp hS hrk sz0 hN;refine Calls.mono ?_ (fun e w' q => HWK.out e w' q);clear HWK;go_enter Tryz.func20,Tryz.ntmps20;go_wp2_with fail;rw [EW.out];refine HSH.out.mono ?_;rintro e w1 ⟨lv,gs,rfl,hln,b1⟩;have HB := hid (zbD (p := p) hln HLN.out hr hc);rw [HBU,HNN.out] at HB;obtain ⟨la,lcap,rfl,-,-⟩ := hln.form;replace P1 := hid (P1.out.step b1);replace PR := hid (PR.out.step b1);have G1 := hid (below_step G0.out b1);have L1 : Hid (w.heap.size + 2 ≤ w1.heap.size) := by unfold Hid;have := SZ.out;have := b1.size;omega
 clear HSH hln b1 x0 x1 x2 EW G0 SZ HBU;go_wp2_with fail;refine HB.out.mono ?_;rintro e w2 ⟨lv2,gs2,rfl,hln2,b2⟩;obtain ⟨la2,lcap2,rfl,-,-⟩ := hln2.form;rw [HMN.out] at hln2 ⊢;obtain ⟨V,hV⟩ : ∃ V,w2.alloc (shO p N (.slice la2 r lcap2)) = V := ⟨_,rfl⟩
 obtain ⟨b3,sz3⟩ := zVA w2 (shO p N (.slice la2 r lcap2));rw [hV] at b3 sz3;have PV : Hid (Cel V w2.heap.size 54 (shc p N (.slice la2 r lcap2))) := by unfold Hid;rw [← hV];exact Cel.new _ _ _
 replace P1 := hid ((P1.out.step b2).step b3);replace PR := hid ((PR.out.step b2).step b3);have G3 := hid (below_step (below_step G1.out b2) b3);have HRD := hid (zfD hp1 hp2 (hln2.now b3) HRS.out HMN.out hr (by have := HNN.out;omega) (Nat.le_trans b2.size b3.size));have L2 : Hid (w1.heap.size ≤ w2.heap.size) := b2.size;have L3 : Hid (w2.heap.size < V.heap.size) := PV.out.blk;have y0 := PV.out.at (i := 0) rfl;have y1 := PV.out.at (i := 1) rfl;have y2 := PV.out.at (i := 2) rfl;rw [← hV] at y0 y1 y2;have EV := hid hV;clear HB hln2 b2 b3 sz3 hV G1;go_wp2_with fail;rw [EV.out];refine HRD.out.mono ?_;rintro e w5 ⟨pvv,gs9,rfl,hpv,hln9,b9⟩;rw [← HS.out] at hpv hln9 ⊢;replace P1 := hid (b9.2 _ _ _ P1.out (by decide) (by decide));replace PR := hid (b9.2 _ _ _ PR.out (by decide) (by decide));replace PV := hid (b9.2 _ _ _ PV.out (by decide) (by decide));have G5 : Hid (Below w.heap.size w w5) := by
  unfold Hid;exact G3.out.trans (b9.1.mono (by have := L1.out;omega))
 have HSE := hid (zaG (x := c) hpv SRT.out (by have := HPL.out;omega));rw [HRK.out] at HSE;obtain ⟨pa,pcap,rfl,hpc⟩ := hpv.form;have LN := hid hln9;have z1 := P1.out.at (i := 1) rfl;have HPA : Hid (∃ a2 cap2,(∀ wx,(Instr.slice 32 (.slice pa S.pv.length pcap) none (some (.int .i64 (rk : Int))) none).run Tryz.prog wx = .ok (.slice a2 rk cap2) wx) ∧ ∀ i,i < rk → ∃ L,a2 = some ⟨L,0,none⟩ ∧ w.heap.size + 2 ≤ L ∧ L < w5.heap.size ∧ w5.cell? ⟨L,i,none⟩ = some (.int .i64 (S.pv.getD i 0 : Nat))) := by
  unfold Hid;have h1 := HRL.out;have i1 : (0 : Int) ≤ (rk : Int) := by omega
  have i2 : (rk : Int) ≤ (pcap : Int) := by omega
  have hpv0 := hpv;obtain ⟨q1,⟨q2,q3⟩ | ⟨g,cp,cur,q2,q3,q4,q5,q6⟩⟩ := hpv
  ·simp only [Value.slice.injEq] at q2
   obtain ⟨rfl,-,rfl⟩ := q2;obtain rfl : rk = 0 := by omega
   refine ⟨none,0,fun wx => ?_,fun i hi => by omega⟩;go_simp
  ·simp only [Value.slice.injEq] at q2
   obtain ⟨rfl,-,rfl⟩ := q2;refine ⟨some ⟨g,0,none⟩,pcap,fun wx => ?_,fun i hi => ⟨g,rfl,by have := L1.out;have := L2.out;have := L3.out;omega,(Array.getElem?_eq_some_iff.1 q4).1,?_⟩⟩
   ·go_simp
   ·unfold Pvs at hpv0
    rw [hpv0.cellAt i (by omega)];simp [show i < S.pv.length by omega]
 obtain ⟨a2,cap2,hsl,hpc⟩ := HPA.out;have HPC := hid hpc;clear hpc HRD hpv hln9 b9 G3 EV y0 y1 y2 HPA;go_wp2_with fail;refine HSE.out.mono ?_;rintro e w6 ⟨fl,rfl,b6⟩;replace PR := hid (PR.out.step b6);replace PV := hid (PV.out.step b6);have G6 := hid (below_step G5.out b6);have LN6 := hid (LN.out.now b6);have HPC6 : Hid (∀ i,i < rk → ∃ L,a2 = some ⟨L,0,none⟩ ∧ w.heap.size + 1 ≠ L ∧ L < w6.heap.size ∧ w6.cell? ⟨L,i,none⟩ = some (.int .i64 (S.pv.getD i 0 : Nat))) := fun i hi => by
  obtain ⟨L,e,h1,h2,h3⟩ := HPC.out i hi;exact ⟨L,e,by omega,Nat.lt_of_lt_of_le h2 b6.size,cnow b6 h3⟩
 have y0 := PV.out.at (i := 0) rfl;have y1 := PV.out.at (i := 1) rfl;have y2 := PV.out.at (i := 2) rfl;have r0 := PR.out.at (i := 0) rfl;have r1 := PR.out.at (i := 1) rfl;have r2 := PR.out.at (i := 2) rfl;have f0 := PR.out.fz 0;have f1 := PR.out.fz 1;have f2 := PR.out.fz 2;obtain ⟨X,hX⟩ : ∃ X,(put3 w6 (w.heap.size + 1) (.int .u64 (p : Int)) (.int .i64 (N : Int)) (.slice la2 r lcap2)).drew = X := ⟨_,rfl⟩
 have bX : Below (put3 w6 (w.heap.size + 1) (.int .u64 (p : Int)) (.int .i64 (N : Int)) (.slice la2 r lcap2)).heap.size (put3 w6 (w.heap.size + 1) (.int .u64 (p : Int)) (.int .i64 (N : Int)) (.slice la2 r lcap2)) X := by rw [← hX];exact (Below.refl _ _).drew
 have TX : Hid (zoA (· = w.heap.size + 1) w6 X) := by
  unfold Hid;rw [← hX];exact ((((zoA.refl (· = w.heap.size + 1) w6).setCell (g := w.heap.size + 1) (.inr rfl) _ _).setCell (g := w.heap.size + 1) (.inr rfl) _ _).setCell (g := w.heap.size + 1) (.inr rfl) _ _).drew
 have HPCX : Hid (∀ i,i < rk → ∃ L,a2 = some ⟨L,0,none⟩ ∧ X.cell? ⟨L,i,none⟩ = some (.int .i64 (S.pv.getD i 0 : Nat))) := fun i hi => by
  obtain ⟨L,e,h1,h2,h3⟩ := HPC6.out i hi;exact ⟨L,e,(TX.out.cell h2 (fun q => h1 q.symm) i).trans h3⟩
 have FIN : Hid (∃ lv gs pa pcap,Ending.returned (.tuple #[shv p N (.slice la2 r lcap2),.slice a2 rk cap2]) = .returned (.tuple #[shv p N lv,.slice pa rk pcap]) ∧ Lns w.heap.size X lv N gs S.m ∧ (∀ i,i < rk → ∃ L,pa = some ⟨L,0,none⟩ ∧ X.cell? ⟨L,i,none⟩ = some (.int .i64 (S.pv.getD i 0 : Nat))) ∧ Below w.heap.size w X) :=
  ⟨_,gs9,_,_,rfl,((((LN6.out.box PR.out (by decide) (by decide)).box (PR.out.set 0 _) (by decide) (by decide)).box ((PR.out.set 0 _).set 1 _) (by decide) (by decide)).now bX).mono (by have := L1.out;omega),HPCX.out,below_step (zgA G6.out (by omega) _ _ _) bX⟩
 have PF := hid ((PR.out.put3 (.int .u64 (p : Int)) (.int .i64 (N : Int)) (.slice la2 r lcap2)).step bX);have EX := hid hX;clear HSE LN G5 b6 z1 P1 LN6 HPC HPC6 HPCX TX G6 PR PV hX bX;go_wp2_with fail;go_region
 all_goals rw [EX.out]
 all_goals go_wp2
 all_goals exact bodyPost_ret (zLI Tryz.results20 PF.out _ (by rfl) (by rfl)) rfl FIN.out
end Go.Proofs.YtkklldokdnfkgaaGreat
