/-
 QWo12ToCo12: Wo12, Co12, joined.
-/
import Derived.Test.YtnfkibjoconphaaGreatQBu12ToLin12
import Derived.Test.YtnfkibjoconphaaGreatQDim12ToBr12
import Derived.Test.YtnfkibjoconphaaGreatQCa12
import Derived.Test.YtnfkibjoconphaaGreatQSo12ToIx12
import Derived.Test.YtnfkibjoconphaaGreatQLw12ToCw12
import Derived.Test.YtnfkibjoconphaaGreatQRd12

set_option maxRecDepth 100000
set_option maxHeartbeats 6400000
set_option linter.unusedVariables false
set_option linter.unusedSimpArgs false
namespace Go.Proofs.YtnfkibjoconphaaGreat
open Go.RowKit
theorem zqB {c r : Nat} {ms : List (List Int)} (h : WidE c ms) (hl : ms.length = r) : WidE (c + r) (zXB r ms) := fun l hm => by
 obtain ⟨i,hi,rfl⟩ := List.mem_map.1 hm;rw [List.length_append,zYG,h.at (by rw [hl];exact List.mem_range.1 hi)]
theorem uniR_res {p : Nat} (hp : 2 ≤ p) (r i : Nat) : Res p (uniR r i) := fun x hx => by
 obtain ⟨j,_,rfl⟩ := List.mem_map.1 hx
 split <;> exact ⟨by omega,by omega⟩
theorem zrB {p r : Nat} {ms : List (List Int)} (hp : 2 ≤ p) (h : ResM p ms) : ResM p (zXB r ms) := fun l hm => by
 obtain ⟨i,hi,rfl⟩ := List.mem_map.1 hm;intro x hx;rcases List.mem_append.1 hx with q | q
 ·exact h.at i x q
 ·exact uniR_res hp r i x q
def wkS (p r c : Nat) (zs : List Int) : St12 := zUA p (zXB r (zHA p r c zs)) (c + r)
def wkR (p r c : Nat) (zs : List Int) : Nat := cntB (wkS p r c zs).pv c
theorem zBG {p r c : Nat} {zs : List Int} (hp : 2 ≤ p) (hl : zs.length = r * c) : Ok12 p (c + r) (c + r) r (wkS p r c zs) :=
 Ok12.red hp (zqB (zSA hl) (zOA _ _ _ _)) (zrB hp (zZA (by omega))) (zGB _ _) (c + r)
theorem znD {p r c : Nat} {zs : List Int} (hp : IsPr p) (hl : zs.length = r * c) : (wkS p r c zs).pv.Pairwise (· < ·) := by
 have hp2 := hp.1
 haveI : NeZero p := ⟨by omega⟩
 exact (zUC hp (zqB (zSA hl) (zOA _ _ _ _)) (zrB hp2 (zZA (by omega))) (zGB _ _) (c + r) (Nat.le_refl _)).1.sorted
theorem sback1 {f : Func} {s1 s3 : Nat} (hr : f.results = #[ResultVar.cell s1 67,ResultVar.tmp s3]) {W : World} {b : Nat} {x0 x1 x2 e : Value} (h : Cel W b 67 [x0,x1,x2]) (tmps : Array Value) (ht : tmps[s1]? = some (.pointer (some ⟨b,0,none⟩))) (he : tmps[s3]? = some e) :
  (results f tmps).run Tryz.prog W = .ok (.tuple #[.agg #[x0,x1,x2],e]) W := by
 simp [results,hr,go_sem,ht,he,h.at (i := 0) rfl,h.at (i := 1) rfl,h.at (i := 2) rfl]
def zyF (w : World) (p r c : Nat) (zs : List Int) (e : Ending) (w' : World) : Prop :=
 ∃ lv gs pa pcap,e = .returned (.tuple #[shv p (c + r) lv,.slice pa (wkR p r c zs) pcap]) ∧ Lns w.heap.size w' lv (c + r) gs (wkS p r c zs).m ∧ Below w.heap.size w w'
theorem worked12 {w : World} {v : Value} {p r c : Nat} {zs : List Int} {K : Nat} (hp : gdB p = true) (h : Mx w v r c zs K) (hK : K ≤ 1099511627775) :
  Calls Tryz.prog 33 #[v,.int .u64 (p : Int)] w (zyF w p r c zs) := by
 obtain ⟨hpr,hp2⟩ := zWC hp;have hp1 := hpr.1;have hm0 := h;obtain ⟨a,cap,rfl,hr,hc⟩ := h.form;have hl : zs.length = r * c := by obtain ⟨_,_,_,_,_,q,_⟩ := hm0;exact q
 have OKS := hid (zBG (p := p) (c := c) (r := r) hp1 hl);have SRT := hid (znD (p := p) hpr hl);obtain ⟨n,hn⟩ : ∃ n,r * c = n := ⟨_,rfl⟩
 rw [hn] at hm0 ⊢;obtain ⟨W0,hW⟩ : ∃ W0,(w.alloc (mrO (r : Int) (c : Int) a n cap)).alloc shz = W0 := ⟨_,rfl⟩
 have b0 : Below w.heap.size w W0 := by rw [← hW];exact ((Below.refl _ _).alloc (Nat.le_refl _) _).alloc (by simp) _
 have sz0 : W0.heap.size = w.heap.size + 2 := by rw [← hW];simp
 have P1 : Hid (Cel W0 w.heap.size 24 (mrC (r : Int) (c : Int) a n cap)) := by unfold Hid;rw [← hW];exact (Cel.new w _ _).step (zJA _ _).1
 have PR : Hid (Cel W0 (w.heap.size + 1) 67 [.int .u64 0,.int .i64 0,.slice none 0 0]) := by
  unfold Hid;rw [← hW];have := Cel.new (w.alloc (mrO (r : Int) (c : Int) a n cap)) 67 [.int .u64 0,.int .i64 0,.slice none 0 0]
  simpa using this
 have x0 := P1.out.at (i := 0) rfl;have x1 := P1.out.at (i := 1) rfl;have x2 := P1.out.at (i := 2) rfl;rw [← hW] at x0 x1 x2;have HSH := hid (zJC hp1 hp2 (hm0.now b0) hK);have G0 := hid b0;have EW := hid hW;have SZ := hid sz0;obtain ⟨LL,hLL⟩ : ∃ LL,zHA p r c zs = LL := ⟨_,rfl⟩
 have HLN : Hid (LL.length = r) := by unfold Hid;rw [← hLL];exact zOA _ _ _ _
 obtain ⟨ML,hML⟩ : ∃ ML,zXB r LL = ML := ⟨_,rfl⟩
 have HRS : Hid (ResM p ML) := by unfold Hid;rw [← hML,← hLL];exact zrB hp1 (zZA (by omega))
 have HMN : Hid (ML.length = r) := by unfold Hid;rw [← hML];exact zGB _ _
 obtain ⟨N,hN⟩ : ∃ N,c + r = N := ⟨_,rfl⟩
 have HNN := hid hN;have HS : Hid (wkS p r c zs = zUA p ML N) := by unfold Hid wkS;rw [hLL,hML,hN]
 obtain ⟨S,hS⟩ : ∃ S,wkS p r c zs = S := ⟨_,rfl⟩
 obtain ⟨rk,hrk⟩ : ∃ rk,wkR p r c zs = rk := ⟨_,rfl⟩
 have HRK : Hid (cntB S.pv c = rk) := by unfold Hid;rw [← hrk,← hS];rfl
 rw [hS] at OKS SRT HS;have HPL : Hid (S.pv.length ≤ r) := OKS.out.piv;have HRL : Hid (rk ≤ S.pv.length) := by unfold Hid;rw [← HRK.out];exact zOG _ _
 have HBU := hML;have HWK : Hid (∀ e w',(∃ lv gs pa pcap,e = .returned (.tuple #[shv p N lv,.slice pa rk pcap]) ∧ Lns w.heap.size w' lv N gs S.m ∧ Below w.heap.size w w') → zyF w p r c zs e w') := fun e w' q => by
  unfold zyF;rw [hN,hrk,hS];exact q
 rw [hLL] at HSH;clear b0 hW h hm0 hK hLL hl hn hpr hp hS hrk sz0 hN;refine Calls.mono ?_ (fun e w' q => HWK.out e w' q);clear HWK;go_enter Tryz.func33,Tryz.ntmps33;go_wp2_with fail;rw [EW.out];refine HSH.out.mono ?_;rintro e w1 ⟨lv,gs,rfl,hln,b1⟩;have HB := hid (besideUnit12 (p := p) hln HLN.out hr hc);rw [HBU,HNN.out] at HB;obtain ⟨la,lcap,rfl,-,-⟩ := hln.form;replace P1 := hid (P1.out.step b1);replace PR := hid (PR.out.step b1);have G1 := hid (below_step G0.out b1);have L1 : Hid (w.heap.size + 2 ≤ w1.heap.size) := by unfold Hid;have := SZ.out;have := b1.size;omega
 clear HSH hln b1 x0 x1 x2 EW G0 SZ HBU;go_wp2_with fail;refine HB.out.mono ?_;rintro e w2 ⟨lv2,gs2,rfl,hln2,b2⟩;obtain ⟨la2,lcap2,rfl,-,-⟩ := hln2.form;rw [HMN.out] at hln2 ⊢;obtain ⟨V,hV⟩ : ∃ V,w2.alloc (shO p N (.slice la2 r lcap2)) = V := ⟨_,rfl⟩
 obtain ⟨b3,sz3⟩ := zJA w2 (shO p N (.slice la2 r lcap2));rw [hV] at b3 sz3;have PV : Hid (Cel V w2.heap.size 67 (shc p N (.slice la2 r lcap2))) := by unfold Hid;rw [← hV];exact Cel.new _ _ _
 replace P1 := hid ((P1.out.step b2).step b3);replace PR := hid ((PR.out.step b2).step b3);have G3 := hid (below_step (below_step G1.out b2) b3);have HRD := hid (zeD hp1 hp2 (hln2.now b3) HRS.out HMN.out hr (by have := HNN.out;omega) (Nat.le_trans b2.size b3.size));have L2 : Hid (w1.heap.size ≤ w2.heap.size) := b2.size;have y0 := PV.out.at (i := 0) rfl;have y1 := PV.out.at (i := 1) rfl;have y2 := PV.out.at (i := 2) rfl;rw [← hV] at y0 y1 y2;have EV := hid hV;clear HB hln2 b2 b3 sz3 hV G1;go_wp2_with fail;rw [EV.out];refine HRD.out.mono ?_;rintro e w5 ⟨pvv,gs9,rfl,hpv,hln9,b9⟩;rw [← HS.out] at hpv hln9 ⊢;replace P1 := hid (b9.2 _ _ _ P1.out (by decide) (by decide));replace PR := hid (b9.2 _ _ _ PR.out (by decide) (by decide));replace PV := hid (b9.2 _ _ _ PV.out (by decide) (by decide));have G5 : Hid (Below w.heap.size w w5) := by
  unfold Hid;exact G3.out.trans (b9.1.mono (by have := L1.out;omega))
 have HSE := hid (search12 (x := c) hpv SRT.out (by have := HPL.out;omega));rw [HRK.out] at HSE;obtain ⟨pa,pcap,rfl,hpc⟩ := hpv.form;have LN := hid hln9;have z1 := P1.out.at (i := 1) rfl;have HPA : Hid (∃ a2 cap2,∀ wx,(Instr.slice 37 (.slice pa S.pv.length pcap) none (some (.int .i64 (rk : Int))) none).run Tryz.prog wx = .ok (.slice a2 rk cap2) wx) := by
  unfold Hid;have h1 := HRL.out;have i1 : (0 : Int) ≤ (rk : Int) := by omega
  have i2 : (rk : Int) ≤ (pcap : Int) := by omega
  obtain ⟨q1,⟨q2,q3⟩ | ⟨g,cp,cur,q2,q3,q4,q5,q6⟩⟩ := hpv
  ·simp only [Value.slice.injEq] at q2
   obtain ⟨rfl,-,rfl⟩ := q2;obtain rfl : rk = 0 := by omega
   refine ⟨none,0,fun wx => ?_⟩;go_simp
  ·simp only [Value.slice.injEq] at q2
   obtain ⟨rfl,-,rfl⟩ := q2;refine ⟨some ⟨g,0,none⟩,pcap,fun wx => ?_⟩;go_simp
 obtain ⟨a2,cap2,hsl⟩ := HPA.out;clear HRD hpv hln9 b9 G3 EV y0 y1 y2 HPA;go_wp2_with fail;refine HSE.out.mono ?_;rintro e w6 ⟨fl,rfl,b6⟩;replace PR := hid (PR.out.step b6);replace PV := hid (PV.out.step b6);have G6 := hid (below_step G5.out b6);have LN6 := hid (LN.out.now b6);have y0 := PV.out.at (i := 0) rfl;have y1 := PV.out.at (i := 1) rfl;have y2 := PV.out.at (i := 2) rfl;have r0 := PR.out.at (i := 0) rfl;have r1 := PR.out.at (i := 1) rfl;have r2 := PR.out.at (i := 2) rfl;have f0 := PR.out.fz 0;have f1 := PR.out.fz 1;have f2 := PR.out.fz 2;obtain ⟨X,hX⟩ : ∃ X,(put3 w6 (w.heap.size + 1) (.int .u64 (p : Int)) (.int .i64 (N : Int)) (.slice la2 r lcap2)).drew = X := ⟨_,rfl⟩
 have bX : Below (put3 w6 (w.heap.size + 1) (.int .u64 (p : Int)) (.int .i64 (N : Int)) (.slice la2 r lcap2)).heap.size (put3 w6 (w.heap.size + 1) (.int .u64 (p : Int)) (.int .i64 (N : Int)) (.slice la2 r lcap2)) X := by rw [← hX];exact (Below.refl _ _).drew
 have FIN : Hid (∃ lv gs pa pcap,Ending.returned (.tuple #[shv p N (.slice la2 r lcap2),.slice a2 rk cap2]) = .returned (.tuple #[shv p N lv,.slice pa rk pcap]) ∧ Lns w.heap.size X lv N gs S.m ∧ Below w.heap.size w X) :=
  ⟨_,gs9,_,_,rfl,((((LN6.out.box PR.out (by decide) (by decide)).box (PR.out.set 0 _) (by decide) (by decide)).box ((PR.out.set 0 _).set 1 _) (by decide) (by decide)).now bX).mono (by have := L1.out;omega),below_step (zWA G6.out (by omega) _ _ _) bX⟩
 have PF := hid ((PR.out.put3 (.int .u64 (p : Int)) (.int .i64 (N : Int)) (.slice la2 r lcap2)).step bX);have EX := hid hX;clear HSE LN G5 b6 z1 P1 LN6 G6 PR PV hX bX;go_wp2_with fail;go_region
 all_goals rw [EX.out]
 all_goals go_wp2
 all_goals exact bodyPost_ret (sback1 Tryz.results33 PF.out _ (by rfl) (by rfl)) rfl FIN.out
def zOD (top left : Nat) (ms : List (List Int)) : List (List Int) := (ms.drop top).map (List.drop left)
theorem step_append_sl (w : World) {ops : Array Oper} {o : Oper} {a : Act} {K : Act → World → Prop} {Q : Exit → Act → World → Prop} {E : Prop}
  (hgd : o.guard = none) (s x : Operand) (hop : o.op = .call { callee := .builtin .append,args := #[s,x],argTypes := #[65,65] })
  (B n : Nat) (v : Value) (Us : List Value) (u : Value) (hs : a.eval s = v) (h1 : w.ownsRow B 41 1 v n Us) (gx : Nat) (hx : a.eval x = .slice (some ⟨gx,0,none⟩) 1 1) (hc : w.cell? ⟨gx,0,none⟩ = some u) (hu : u.oneCell' = true) (hlen : n ≤ 1000000000) (hBs : B ≤ w.heap.size)
  (hK : ∀ a' cap' w',Hid (w'.ownsRow B 41 1 (.slice (some ⟨a',0,none⟩) (n + 1) cap') (n + 1) (Us ++ [u])) → Hid (∀ (b : Nat) (T : TypeId) (L : List Value),Cel w b T L → T ≠ 41 → Cel w' b T L) → Hid (Below B w w') → K (a.put o.dst (.slice (some ⟨a',0,none⟩) (n + 1) cap')) w') :
  if Region.wanted o (yielded ops a.tmps) = true then Oper.wp Tryz.prog o a w K Q else E := by
 have hw : Region.wanted o (yielded ops a.tmps) = true := by simp [Region.wanted,hgd]
 rw [if_pos hw];obtain ⟨i,hi,hz,hsz,hby⟩ := info_parts Tryz.infoLs12;refine wp_append_lies w s x 65 hop B 41 i (.slice none 0 0) 1 24 Tryz.underlying65 hi hz hsz hby rfl (by omega) v n Us hs h1 ⟨gx,0,none⟩ 1 1 [u] hx rfl ?_ ?_ (by omega) (by unfold maxLen;omega) (by omega) hBs w.heap.size rfl ?_
 ·intro j u' hj
  match j,hj with
  | 0,hj => simp at hj;subst hj;rw [ztB];exact hc
 ·intro u' hu'
  simp at hu';subst hu';exact hu
 ·intro g' cap' w' k1 k2 k3 k4
  refine hK _ _ w' k1 (fun b T L hC hT => zOC hC h1 k2 hT) ?_;refine ⟨k2.os,k2.tape,k2.output,k2.size,fun k hk => k2.block k (by omega) (fun e => ?_)⟩;obtain ⟨_,⟨q,_⟩ | ⟨g1,cap1,cur,q,q3,_⟩⟩ := h1
  ·rw [q] at e;cases e
  ·rw [q] at e
   obtain rfl : k = g1 := by simpa [Value.ownBlock] using e
   omega
theorem zCF {B n b i : Nat} {w : World} {v u : Value} {Us : List Value} {T : TypeId} {L : List Value} (h : w.ownsRow B 41 1 v n Us) (hb : Cel w b T L) (hT2 : T ≠ 41) : (w.setCell ⟨b,i,none⟩ u).ownsRow B 41 1 v n Us := by
 refine zRB h fun g hg hlt => Below.heap_setCell w _ u g fun e => ?_
 have e' : g = b := e;subst e';obtain ⟨q1,⟨q2,q3⟩ | ⟨g',cap,cur,q2,q3,q4,q5⟩⟩ := h
 ·rw [q2] at hg;cases hg
 ·rw [q2] at hg
  simp only [Value.ownBlock,Option.some.injEq] at hg;subst hg;have := q4.symm.trans (show w.heap[_]? = _ from hb);simp only [Option.some.injEq,Obj.cells.injEq] at this;exact hT2 this.2.1.symm
theorem zkG {B n : Nat} {w : World} {v : Value} {Us : List Value} (h : w.ownsRow B 41 1 v n Us) : ∃ a cap,v = .slice a n cap ∧ n ≤ cap := by
 obtain ⟨q1,⟨q2,q3⟩ | ⟨g,cap,cur,q2,q3,q4,q5,q6⟩⟩ := h
 ·exact ⟨none,0,by rw [q2,q3],by omega⟩
 ·exact ⟨_,cap,q2,q5⟩
abbrev cutv (left k g : Nat) : Value := .slice (some ⟨g,left,none⟩) k k
def CoH (w : World) (p N k left n : Nat) (slv : Value) (gs : List Nat) (gk : Nat) (s : Value) (wx : World) : Prop :=
 ∃ (i : Nat) (lv : Value),s = .int .i64 (i : Int) ∧ i ≤ n ∧ gk = n - i ∧ wx.ownsRow (w.heap.size + 3) 41 1 lv i ((gs.take i).map (cutv left k)) ∧ Cel wx w.heap.size 67 (shc p N slv) ∧ Cel wx (w.heap.size + 1) 67 [.int .u64 0,.int .i64 0,.slice none 0 0] ∧ Cel wx (w.heap.size + 2) 67 (shc p k lv) ∧ Below w.heap.size w wx
def zFH (w : World) (p k : Nat) (ls : List (List Int)) (e : Ending) (w' : World) : Prop := ∃ lv,e = .returned (shv p k lv) ∧ Rdl w' lv ls ∧ Below w.heap.size w w'
theorem corner12 {w : World} {slv : Value} {B p N r top left : Nat} {gs0 : List Nat} {m0 : List (List Int)} (hL : Lns B w slv N gs0 m0) (hm : m0.length = r) (hr : r ≤ 64) (hN : N ≤ 1048576) (htop : top ≤ r) (hleft : left ≤ N) (hlr : 0 < r → left < N) :
  Calls Tryz.prog 34 #[shv p N slv,.int .i64 (top : Int),.int .i64 (left : Int)] w (zFH w p (N - left) (zOD top left m0)) := by
 have LS := hid hL;obtain ⟨a0,cap0,rfl,hcap,hform⟩ := hL.form2;rw [hm] at hcap hform LS ⊢;obtain ⟨a2,cap2,hs,hcap2,ha2⟩ := zWF a0 r cap0 top htop hcap hform;obtain ⟨k,hk⟩ : ∃ k,N - left = k := ⟨_,rfl⟩
 have hkk : IntKind.i64.wrap ((N : Int) - (left : Int)) = ((k : Nat) : Int) := by rw [zPA] <;> omega
 have hkk2 := hkk;rw [IntKind.wrap_i64] at hkk2;rw [hk];obtain ⟨n,hn⟩ : ∃ n,r - top = n := ⟨_,rfl⟩
 rw [hn] at hs hcap2 ha2;obtain ⟨W0,hW⟩ : ∃ W0,((w.alloc (shO p N (.slice a0 r cap0))).alloc shz).alloc (shO p k (.slice none 0 0)) = W0 := ⟨_,rfl⟩
 have b0 : Below w.heap.size w W0 := by rw [← hW];exact ((((Below.refl _ _).alloc (Nat.le_refl _) _).alloc (by simp) _).alloc (by simp;omega) _)
 have PM : Hid (Cel W0 w.heap.size 67 (shc p N (.slice a0 r cap0))) := by
  unfold Hid;rw [← hW];exact ((Cel.new w _ _).step (zJA _ _).1).step (zJA _ _).1
 have PZ : Hid (Cel W0 (w.heap.size + 1) 67 [.int .u64 0,.int .i64 0,.slice none 0 0]) := by
  unfold Hid;rw [← hW];have := (Cel.new (w.alloc (shO p N (.slice a0 r cap0))) 67 [.int .u64 0,.int .i64 0,.slice none 0 0]).step (zJA _ (shO p k (.slice none 0 0))).1
  simpa using this
 have PS : Hid (Cel W0 (w.heap.size + 2) 67 (shc p k (.slice none 0 0))) := by
  unfold Hid;rw [← hW];have := Cel.new ((w.alloc (shO p N (.slice a0 r cap0))).alloc shz) 67 (shc p k (.slice none 0 0))
  simpa using this
 have HGL : Hid (gs0.length = r) := by unfold Hid;rw [← hm];exact hL.2.2.1
 have H0 : Hid (CoH w p N k left n (.slice a0 r cap0) (gs0.drop top) n (.int .i64 0) W0) := ⟨0,_,rfl,Nat.zero_le _,rfl,World.ownsRow_nil _ _ _ _,PM.out,PZ.out,PS.out,b0⟩
 have HM0 := hid hm;have HLR := hid hlr;have HA2 := hid ha2;have HNN := hid hn;have HKK := hid hk;have y1 := (Cel.new w 67 (shc p N (.slice a0 r cap0))).step (zJA _ shz).1;have x0 := y1.at (i := 0) rfl;have x1 := y1.at (i := 1) rfl;have z2 := PM.out.at (i := 2) rfl;rw [← hW] at z2;have EW := hid hW;clear b0 hW hL hm hform hlr PM PZ PS y1 hn ha2 hk;go_enter Tryz.func34,Tryz.ntmps34;go_wp2_with fail;rw [EW.out];clear EW x0 x1 z2
 go_loopg [22] n (fun gk s22 wx => CoH w p N k left n (.slice a0 r cap0) (gs0.drop top) gk s22 wx)
 case atStart => exact H0.out
 case round =>
  clear H0;obtain ⟨i,lv,rfl,hin,hgk,hln,hmm,hz0,hs0,hG⟩ := hrel;have LN := hid hln;have PM := hid hmm;have PZ := hid hz0;have PS := hid hs0;have G := hid hG;have HG := hid hgk;obtain ⟨la,lcap,rfl,-⟩ := zkG hln;clear hln hmm hz0 hs0 hG hgk
  by_cases hlt : i < n
  ·have hlt' : (i : Int) < (n : Int) := by omega
   obtain ⟨L,e1,e2⟩ := HA2.out (by omega);subst e1;subst e2;have hti : top + i < r := by have := HNN.out;omega
   obtain ⟨gi,q1,q2,q3,q4⟩ := LS.out.blk (i := top + i) (by rw [HM0.out];exact hti);have LSW := hid (LS.out.now G.out);have k0 := (LSW.out.line q1).1;have HGI : Hid ((gs0.drop top).take i ++ [gi] = (gs0.drop top).take (i + 1)) := by
    unfold Hid;have e : (gs0.drop top)[i]? = some gi := by rw [List.getElem?_drop];exact q1
    obtain ⟨h1,h2⟩ := List.getElem?_eq_some_iff.1 e;rw [List.take_succ_eq_append_getElem h1,h2]
   have hlN : left < N := HLR.out (by omega);have hcs : ∀ wx,(Instr.slice 41 (rowv N gi) (some (.int .i64 (left : Int))) none none).run Tryz.prog wx = .ok (cutv left k gi) wx := fun wx => by
    have i1 : (0 : Int) ≤ (left : Int) := by omega
    have i2 : (left : Int) ≤ (N : Int) := by omega
    have i3 : N ≠ left := by omega
    have i4 := HKK.out;subst i4;go_simp
   have hw := zmA (i := i) (by omega);have s2 := PS.out.at (i := 2) rfl;have HMM : Hid (n - (i + 1) < gk) := by unfold Hid;rw [HG.out];omega
   have HB1 : Hid (w.heap.size + 3 ≤ wr.heap.size) := by unfold Hid;have := PS.out.blk;omega
   clear HG q1 q2 q3 q4 LSW;go_wp2_with fail;have KB : Hid (∀ w',Below wr.heap.size wr w' → w'.cell? ⟨w.heap.size + 2,2,none⟩ = some (.slice la i lcap)) := fun w' h => cnow h s2
   refine zDA (fun w' => w'.cell? ⟨w.heap.size + 2,2,none⟩ = some (.slice la i lcap)) 6 (by kernel_rfl) ?_;obtain ⟨D1,hD⟩ : ∃ D1,wr.drew = D1 := ⟨_,rfl⟩
   have GB : Hid (Below wr.heap.size wr D1) := by unfold Hid;rw [← hD];exact (Below.refl _ _).drew
   rw [hD];clear hD;refine zAA (i := 0) (oi := ⟨some 26,.fieldAddr 67 (.tmp 7) 2,0, "sheet.go:68",#[],none⟩) (v := (.pointer (some ⟨(w.heap.size + 2),2,none⟩))) rfl (by kernel_rfl) (fun _ _ _ h => h) (Or.inl ⟨by rfl,?_⟩) (KB.out _ GB.out) ?_
   ·intro w hSw;(try dsimp only at hSw);go_simp
   simp only [Act.put,sIb,sC0,sC1];refine zAA (i := 1) (oi := ⟨some 27,.load 65 (.tmp 26),65, "sheet.go:68",#[⟨0,.data⟩],none⟩) (v := (.slice la i lcap)) rfl (by kernel_rfl) (fun _ _ _ h => h) (Or.inl ⟨by rfl,?_⟩) (KB.out _ GB.out) ?_
   ·intro w hSw;(try dsimp only at hSw);go_simp
   simp only [Act.put,sIb,sC0,sC1];refine zAA (i := 2) (oi := ⟨some 28,.move (.tmp 9),41, "sheet.go:68",#[],none⟩) (v := (rowv N gi)) rfl (by kernel_rfl) (fun _ _ _ h => h) (Or.inl ⟨by rfl,?_⟩) (KB.out _ GB.out) ?_
   ·intro w hSw;(try dsimp only at hSw);go_simp
   simp only [Act.put,sIb,sC0,sC1];refine zAA (i := 3) (oi := ⟨some 29,.move (.tmp 2),3, "sheet.go:68",#[],none⟩) (v := (.int .i64 (left : Int))) rfl (by kernel_rfl) (fun _ _ _ h => h) (Or.inl ⟨by rfl,?_⟩) (KB.out _ GB.out) ?_
   ·intro w hSw;(try dsimp only at hSw);go_simp
   simp only [Act.put,sIb,sC0,sC1];refine zAA (i := 4) (oi := ⟨some 30,.slice 41 (.tmp 28) (some (.tmp 29)) none none,41, "sheet.go:68",#[⟨2,.data⟩,⟨3,.data⟩],none⟩) (v := (cutv left k gi)) rfl (by kernel_rfl) (fun _ _ _ h => h) (Or.inl ⟨by rfl,?_⟩) (KB.out _ GB.out) ?_
   ·intro w hSw;(try dsimp only at hSw);go_simp
   simp only [Act.put,sIb,sC0,sC1];refine zBA (i := 5) (o := ⟨some 31,.buildSlice 65 1 #[(0,.tmp 30)],65, "sheet.go:68",#[⟨4,.data⟩],none⟩) (by kernel_rfl) rfl (fun K hK => ?_);go_simp;obtain ⟨V2,hW⟩ : ∃ V2,D1.alloc (.cells #[cutv left k gi] 41) = V2 := ⟨_,rfl⟩
   obtain ⟨b,sz2⟩ := zJA D1 (.cells #[cutv left k gi] 41);rw [hW] at b sz2;replace GB := hid (below_step GB.out b);have CB : Hid (Cel V2 D1.heap.size 41 [cutv left k gi]) := by unfold Hid;rw [← hW];exact Cel.new _ _ _
   rw [hW];clear hW b;refine hK.out _ _ (fun _ => KB.out _ GB.out) ?_;clear hK
   try simp only [Act.put]
   refine zBA (i := 6) (o := ⟨some 32,.call { callee := .builtin .append,args := #[.tmp 27,.tmp 31],argTypes := #[65,65] },65, "sheet.go:68",#[⟨1,.data⟩,⟨5,.data⟩],none⟩) (by kernel_rfl) rfl (fun K hK => ?_);have LN2 := hid (zRB LN.out fun b _ hlt => GB.out.block b hlt);have q0 := CB.out.at (i := 0) rfl;refine step_append_sl _ rfl (.tmp 27) (.tmp 31) rfl (w.heap.size + 3) i (.slice la i lcap) (((gs0.drop top).take i).map (cutv left k)) (cutv left k gi) rfl LN2.out D1.heap.size rfl q0 rfl (by omega) (by have := GB.out.size;have := HB1.out;omega) ?_;intro a9 cap9 w9 LN9 KC9 BB9;have e9 : ((gs0.drop top).take i).map (cutv left k) ++ [cutv left k gi] = ((gs0.drop top).take (i + 1)).map (cutv left k) := by rw [← HGI.out];simp
   rw [e9] at LN9;have PM9 := hid (KC9.out _ _ _ (PM.out.step GB.out) (by decide));have PZ9 := hid (KC9.out _ _ _ (PZ.out.step GB.out) (by decide));have PS9 := hid (KC9.out _ _ _ (PS.out.step GB.out) (by decide));have G9 : Hid (Below w.heap.size w w9) := by
    unfold Hid;exact (below_step G.out GB.out).trans (BB9.out.mono (by omega))
   have r2 := PS9.out.at (i := 2) rfl;have f2 := PS9.out.fz 2;have HN1 : Hid (CoH w p N k left n (.slice (some ⟨L,0,none⟩) r cap0) (gs0.drop top) (n - (i + 1)) (.int .i64 ((i + 1 : Nat) : Int)) (w9.setCell ⟨w.heap.size + 2,2,none⟩ (.slice (some ⟨a9,0,none⟩) (i + 1) cap9))) :=
    ⟨i + 1,_,rfl,by omega,rfl,zCF LN9.out PS9.out (by decide),PM9.out.ne (by omega),PZ9.out.ne (by omega),PS9.out.set 2 _,bset G9.out (by omega)⟩
   clear LN LN2 LN9 PM PM9 PZ PZ9 PS PS9 KC9 BB9 G G9 GB KB CB HGI e9 s2 q0 hs HB1 k0 hcs;refine hK.out _ _ (fun h => absurd h (by decide)) ?_;clear hK
   try simp only [Act.put]
   refine zBA (i := 7) (o := ⟨some 33,.fieldAddr 67 (.tmp 7) 2,0, "sheet.go:68",#[⟨0,.phase⟩,⟨1,.phase⟩,⟨2,.phase⟩,⟨3,.phase⟩,⟨4,.phase⟩,⟨5,.phase⟩,⟨6,.phase⟩],none⟩) (by kernel_rfl) rfl (fun K hK => ?_);go_simp;refine hK.out _ _ (fun h => absurd h (by decide)) ?_;clear hK
   try simp only [Act.put]
   refine zBA (i := 8) (o := ⟨none,.store 65 (.tmp 33) (.tmp 32),0, "sheet.go:68",#[⟨7,.data⟩,⟨6,.data⟩,⟨6,.chain⟩,⟨0,.phase⟩,⟨1,.phase⟩,⟨2,.phase⟩,⟨3,.phase⟩,⟨4,.phase⟩,⟨5,.phase⟩,⟨6,.phase⟩],none⟩) (by kernel_rfl) rfl (fun K hK => ?_);go_simp;refine hK.out _ _ (fun h => absurd h (by decide)) ?_;clear hK
   try simp only [Act.put]
   refine zFA (by kernel_rfl) ?_ _;go_wp2_with fail;go_roundg (n - (i + 1))
   case rel => exact HN1.out
   case measure => exact HMM.out
  ·have hlt' : ¬ (i : Int) < (n : Int) := by omega
   obtain rfl : i = n := by omega
   have x0 := PS.out.at (i := 0) rfl;have x1 := PS.out.at (i := 1) rfl;have x2 := PS.out.at (i := 2) rfl;have y0 := PZ.out.at (i := 0) rfl;have y1 := PZ.out.at (i := 1) rfl;have y2 := PZ.out.at (i := 2) rfl;have g0 := PZ.out.fz 0;have g1 := PZ.out.fz 1;have g2 := PZ.out.fz 2;have hcl : (zOD top left m0).length = i := by unfold zOD;rw [List.length_map,List.length_drop,HM0.out];exact HNN.out
   have FIN : Hid (zFH w p k (zOD top left m0) (.returned (shv p k (.slice la i lcap))) (put3 wr (w.heap.size + 1) (.int .u64 (p : Int)) (.int .i64 (k : Int)) (.slice la i lcap))) := by
    refine ⟨_,rfl,?_,zWA G.out (by omega) _ _ _⟩;have O2 := zCF (i := 2) (u := .slice la i lcap) (zCF (i := 1) (u := .int .i64 (k : Int)) (zCF (i := 0) (u := .int .u64 (p : Int)) LN.out PZ.out (by decide)) (PZ.out.set 0 _) (by decide)) ((PZ.out.set 0 _).set 1 _) (by decide);have B2 : Below w.heap.size w (put3 wr (w.heap.size + 1) (.int .u64 (p : Int)) (.int .i64 (k : Int)) (.slice la i lcap)) := zWA G.out (by omega) _ _ _;obtain ⟨X,hX⟩ : ∃ X,put3 wr (w.heap.size + 1) (.int .u64 (p : Int)) (.int .i64 (k : Int)) (.slice la i lcap) = X := ⟨_,rfl⟩
    have LSX := LS.out.now B2;have O3 : X.ownsRow (w.heap.size + 3) 41 1 (.slice la i lcap) i (((gs0.drop top).take i).map (cutv left k)) := by rw [← hX];exact O2
    rw [hX] at LSX ⊢;obtain ⟨a9,c9,e9,hc9⟩ := zkG O3;simp only [Value.slice.injEq,true_and] at e9;refine ⟨la,lcap,by rw [hcl],by rw [hcl];have := e9.2;omega,by rw [hcl];have := HNN.out;omega,?_⟩
    by_cases hz : i = 0
    ·exact .inl (List.eq_nil_of_length_eq_zero (hcl.trans hz))
    ·have O4 := O3
     obtain ⟨q1,⟨q2,q3⟩ | ⟨g,cp,cur,q2,q3,q4,q5,q6⟩⟩ := O3
     ·exact absurd q3 hz
     ·simp only [Value.slice.injEq] at q2
      obtain ⟨rfl,-,-⟩ := q2;refine .inr ⟨g,0,rfl,(Array.getElem?_eq_some_iff.1 q4).1,fun j xs hj => ?_⟩;have hj' : j < i := by have := (List.getElem?_eq_some_iff.1 hj).1;rw [hcl] at this;exact this
      have hti : top + j < r := by have := HNN.out;omega
      obtain ⟨gj,e1,e2,e3,e4⟩ := LSX.blk (i := top + j) (by rw [HM0.out];exact hti);have ec := World.ownsRow.cellAt O4 j (by omega);have eu : (((gs0.drop top).take i).map (cutv left k))[j]? = some (cutv left k gj) := by
       rw [List.getElem?_map,List.getElem?_take,if_pos hj',List.getElem?_drop,e1];rfl
      refine ⟨cutv left k gj,by rw [Nat.zero_add,ec,eu],?_⟩;have ex : xs = (rowE m0 (top + j)).drop left := by
       unfold zOD at hj;rw [List.getElem?_map,List.getElem?_drop] at hj;unfold rowE;rw [List.getD_eq_getElem?_getD];rw [List.getElem?_eq_getElem (by rw [HM0.out];exact hti)] at hj ⊢;simp at hj ⊢;exact hj.symm
      have hxl : xs.length = k := by rw [ex,List.length_drop,e4];exact HKK.out
      refine ⟨gj,left,k,by rw [hxl],by omega,e3.lt,fun t ht => ?_⟩;have hb : left + t < (rowE m0 (top + j)).length := by rw [hxl] at ht;rw [e4];have := HKK.out;omega
      have := (Row.nil12.2 e3).word (i := left + t) hb;rw [this]
      congr 2
      subst ex;rw [List.getElem_drop]
   have PF := hid (PZ.out.put3 (.int .u64 (p : Int)) (.int .i64 (k : Int)) (.slice la i lcap));clear LN PM PZ PS G HG hcl;go_wp2;exact bodyPost_ret (zLI Tryz.results34 PF.out _ (by rfl)) rfl FIN.out
end Go.Proofs.YtnfkibjoconphaaGreat
