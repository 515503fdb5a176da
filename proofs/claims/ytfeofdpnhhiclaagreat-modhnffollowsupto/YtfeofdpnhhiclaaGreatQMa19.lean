import Derived.Test.YtfeofdpnhhiclaaGreatQMo19ToIx13
import Derived.Test.YtfeofdpnhhiclaaGreatQSo13ToZf14
import Derived.Test.YtfeofdpnhhiclaaGreatQPn19ToRs19
set_option maxRecDepth 100000
set_option maxHeartbeats 6400000
set_option linter.unusedVariables false
set_option linter.unusedSimpArgs false
namespace Go.Proofs.YtfeofdpnhhiclaaGreat
open Go.RowKit
theorem zF_flat19 (m n : Nat) (F : Nat → Nat → Int) : ((List.range m).map fun i => (List.range n).map (F i)).flatten = zF m n F := by
 induction m with
 | zero => simp [zF]
 | succ m ih =>
  rw [List.range_succ,List.map_append,List.flatten_append,ih]
  apply List.ext_getElem?
  intro t
  by_cases q : t < m * n
  ·have q2 : t < (m + 1) * n := by rw [Nat.succ_mul];omega
   rw [List.getElem?_append_left (by rw [zGD];exact q)];simp [zF,q,q2]
  ·rw [List.getElem?_append_right (by rw [zGD];omega),zGD]
   simp only [List.map_cons,List.map_nil,List.flatten_cons,List.flatten_nil,List.append_nil]
   by_cases q2 : t < (m + 1) * n
   ·have q3 : t - m * n < n := by rw [Nat.succ_mul] at q2;omega
    have e := zCI (i := m) q3;rw [show m * n + (t - m * n) = t by omega] at e;simp [zF,q2,q3,e.1,e.2]
   ·rw [List.getElem?_eq_none (by simp;rw [Nat.succ_mul] at q2;omega),List.getElem?_eq_none (by rw [zGD];omega)]
theorem Sh17.prr19 {B m n k : Nat} {w : World} {lv : Value} {gs : Nat → Nat} {L : Nat → Nat → Int} (h : Sh17 B w lv m n gs L k) (hm : m ≤ 64) (hn : n ≤ 64) : ∃ pss,Prr 0 w lv pss ∧ Zcss w pss ((List.range m).map fun i => (List.range n).map (L i)) k ∧ ztG n pss := by
 obtain ⟨h1,h4,h5⟩ := h;obtain ⟨q,hq⟩ := Deep.choose_lt (α := List (Value × Value)) (n := m) (p := fun j ps => Arr w (gs j) ps ∧ Zms w ps ((List.range n).map (L j)) k) (fun j hj => (h5 j hj).2);have hat : ∀ j ps,((List.range m).map q)[j]? = some ps → j < m ∧ ps = q j := fun j ps hp => by
  have hj : j < m := by simpa using (List.getElem?_eq_some_iff.1 hp).1
  rw [List.getElem?_map,List.getElem?_range hj] at hp;exact ⟨hj,by simpa using hp.symm⟩
 have hlen : ∀ j,j < m → (q j).length = n := fun j hj => by rw [(hq j hj).2.1];simp
 refine ⟨(List.range m).map q,?_,⟨by simp,fun j ps hp => ?_⟩,fun ps hps => ?_⟩
 ·rcases h1 with ⟨h0,rfl⟩ | ⟨h0,Lb,cap,r,rfl,e0,e1,e2⟩
  ·subst h0
   exact ⟨none,0,by simp,by simp,by simp,.inl (by simp)⟩
  ·refine ⟨_,cap,by simp,by simpa using e0,by simp;omega,.inr ⟨Lb,0,rfl,e2.blk,fun j ps hp => ?_⟩⟩
   obtain ⟨hj,rfl⟩ := hat j ps hp;refine ⟨rowv n (gs j),by rw [Nat.zero_add];exact e2.at (zfE hj),?_⟩;have := (hq j hj).1.prs (B := 0) (Nat.zero_le _) (by rw [hlen j hj];omega) (Nat.le_refl _);rw [hlen j hj] at this;exact this
 ·obtain ⟨hj,rfl⟩ := hat j ps hp
  have : ((List.range m).map fun i => (List.range n).map (L i)).getD j [] = (List.range n).map (L j) := by simp [hj]
  rw [this];exact (hq j hj).2.zcs
 ·obtain ⟨j,hj,e⟩ := List.getElem_of_mem hps
  have hj' : j < m := by simpa using hj
  have e' : q j = ps := by simpa using e
  subst e';exact ⟨hlen j hj',(hq j hj').1.2⟩
theorem matrix19 {w : World} {B bt n k kw ld cd : Nat} {nd : Bool} {ad : Option Addr} {lv : Value} {D : Int} {gs : Nat → Nat} {H : Nat → Nat → Int} (h : Tg19 B w bt nd ad ld cd lv n D gs H k kw) (hr : n ≤ 64) :
  Calls Tryz.prog 53 #[.pointer (some ⟨bt,0,none⟩)] w (zxD w n n (zF n n H) kw) := by
 obtain ⟨pss,hp,hz,hsm⟩ := h.2.2.prr19 hr hr;have hc := hr;obtain ⟨la,lc,rfl⟩ : ∃ la lc,lv = .slice la n lc := by
  rcases h.2.2.1 with ⟨e,h⟩ | ⟨h0,Lb,cap,r,e,_⟩
  ·exact ⟨none,0,by rw [e];exact h⟩
  ·exact ⟨_,cap,e⟩
 obtain ⟨W0,hW⟩ : ∃ W0,w.alloc mbox = W0 := ⟨_,rfl⟩
 obtain ⟨b0,sz0⟩ := alo1 w mbox;rw [hW] at b0 sz0;have PR := hid (zRD hW);have hrc : n * n ≤ 64 * 64 := Nat.mul_le_mul hr hr;have HPL : Hid (pss.length = n) := by unfold Hid;rw [hz.1];simp
 have HC : Hid (∀ w',Below W0.heap.size W0 w' → Calls Tryz.prog 82 #[.slice la n lc] w' (zzG w' pss.flatten)) := fun w' hb => zSE ((hp.now b0).now hb) hsm (by rw [HPL.out];omega) (by omega)
 have ZF := hid (((Zcss.flat hz).now b0));rw [zF_flat19] at ZF;have hfl := zGD n n H;obtain ⟨FT,hFT⟩ : ∃ FT,pss.flatten = FT := ⟨_,rfl⟩
 obtain ⟨ZS,hZS⟩ : ∃ ZS,zF n n H = ZS := ⟨_,rfl⟩
 rw [hFT] at HC ZF;rw [hZS] at ZF hfl ⊢;have HFL := hid hfl;have k2 := (h.1.step b0).at (i := 2) rfl;have G := hid b0;have EW := hid hW;have SZ := hid sz0;clear h hp hz hsm hfl b0 sz0 hW hFT hZS HPL;go_enter Tryz.func53,Tryz.ntmps53;go_wp2_with fail;rw [EW.out];clear EW;have KB : Hid (∀ w',Below W0.heap.size W0 w' → w'.cell? ⟨bt,2,none⟩ = some (.slice la n lc)) := fun w' h => cnow h k2
 refine zFA (fun w' => w'.cell? ⟨bt,2,none⟩ = some (.slice la n lc)) 21 (by kernel_rfl) ?_;obtain ⟨D1,hD⟩ : ∃ D1,W0.drew = D1 := ⟨_,rfl⟩
 have GB : Hid (Below W0.heap.size W0 D1) := by unfold Hid;rw [← hD];exact (Below.refl _ _).drew
 rw [hD];clear hD;have ld0 := GB.out.size;refine zEA [(0,(.pointer (some ⟨bt,0,none⟩))),(1,(.pointer (some ⟨bt,0,none⟩))),(2,(.pointer (some ⟨bt,2,none⟩))),(3,(.slice la n lc)),(4,(.int .i64 (n : Int))),(5,(.pointer (some ⟨bt,0,none⟩))),(6,(.pointer (some ⟨bt,0,none⟩))),(7,(.pointer (some ⟨bt,2,none⟩))),(8,(.slice la n lc)),(9,(.int .i64 (n : Int))),(10,(.pointer (some ⟨bt,0,none⟩))),(11,(.pointer (some ⟨bt,0,none⟩))),(12,(.pointer (some ⟨bt,2,none⟩))),(13,(.slice la n lc))] 14 ?_ (KB.out _ GB.out) ?_
 ·simp only [zPA,gA9,g09,g19,Act.put,sI9,s09,s19]
  (repeat' (first | exact trivial | refine And.intro (Or.inl ⟨by rfl,?_⟩) ?_)) <;> (intro w hSw;(try dsimp only at hSw);go_simp)
 simp only [actV,gA9,g09,g19,Act.put,sI9,s09,s19];refine zMA (i := 14) (j := 19) (oi := ⟨some 20,.call { callee := .value (.func 82),args := #[.tmp 19],argTypes := #[90] },22, "triangle.go:96",#[⟨13,.data⟩],none⟩) (oj := ⟨some 3,.alloc 24,0, "triangle.go:96",#[],none⟩) (by kernel_rfl) rfl rfl (fun K hK => ?_) (fun K hK => ?_)
 ·skip
  go_simp;go_at_call 82;refine (HC.out _ GB.out).mono ?_;rintro e w2 ⟨u,rfl,p1,b⟩;have lz2 := (show Below _ _ _ from b).size;replace GB := hid (below_step GB.out b);have PC := hid p1;obtain ⟨au,cu,rfl,-,-,-,-⟩ := p1.form;clear p1;clear b;refine hK.out _ _ (fun _ => KB.out _ GB.out) ?_;clear hK;refine zMA (i := 15) (j := 19) (oi := ⟨some 21,.call { callee := .value (.func 81),args := #[.tmp 10,.tmp 15,.tmp 20],argTypes := #[3,3,22] },32, "triangle.go:96",#[⟨4,.data⟩,⟨9,.data⟩,⟨14,.data⟩,⟨14,.chain⟩],none⟩) (oj := ⟨some 3,.alloc 24,0, "triangle.go:96",#[],none⟩) (by kernel_rfl) rfl rfl (fun K hK => ?_) (fun K hK => ?_)
  ·skip
   go_simp;go_at_call 81;refine (zeE PC.out ((ZF.out.now GB.out).zis) HFL.out hr hc).mono ?_;rintro e w3 ⟨v2,rfl,hm2,b⟩;have lz3 := (show Below _ _ _ from b).size;replace GB := hid (below_step GB.out b);obtain ⟨am,cm,rfl,-,-⟩ := hm2.mx.form;have MM := hid hm2;clear hm2;clear b;refine hK.out _ _ (fun _ => KB.out _ GB.out) ?_;clear hK;refine zEA [(16,(.tuple #[(.agg #[.int .i64 (n : Int),.int .i64 (n : Int),.slice am (n * n) cm]),(.int .i64 0)])),(17,(.agg #[.int .i64 (n : Int),.int .i64 (n : Int),.slice am (n * n) cm])),(18,(.int .i64 0))] 3 ?_ (KB.out _ GB.out) ?_
   ·simp only [zPA,gA9,g09,g19,Act.put,sI9,s09,s19]
    (repeat' (first | exact trivial | refine And.intro (Or.inl ⟨by rfl,?_⟩) ?_)) <;> (intro w hSw;(try dsimp only at hSw);go_simp)
   simp only [actV,gA9,g09,g19,Act.put,sI9,s09,s19];refine zAA (i := 19) (o := ⟨some 3,.alloc 24,0, "triangle.go:96",#[],none⟩) (by kernel_rfl) rfl (fun K hK => ?_);go_simp;obtain ⟨V4,hW⟩ : ∃ V4,w3.alloc mbox = V4 := ⟨_,rfl⟩
   obtain ⟨b,sz4⟩ := alo1 w3 mbox;rw [hW] at b sz4;replace GB := hid (below_step GB.out b);have PN : Hid (Cel V4 w3.heap.size 24 [.int .i64 0,.int .i64 0,.slice none 0 0]) := by unfold Hid;rw [← hW];exact Cel.new _ _ _
   have BN : Hid (W0.heap.size ≤ w3.heap.size) := by unfold Hid;omega
   replace MM := hid (MM.out.now b);rw [hW];clear hW b;refine hK.out _ _ (fun _ => KB.out _ GB.out) ?_;clear hK
   try simp only [Act.put]
   refine zAA (i := 20) (o := ⟨none,.store 24 (.tmp 3) (.tmp 22),0, "triangle.go:96",#[⟨19,.data⟩,⟨17,.data⟩,⟨15,.chain⟩,⟨0,.phase⟩,⟨1,.phase⟩,⟨2,.phase⟩,⟨3,.phase⟩,⟨4,.phase⟩,⟨5,.phase⟩,⟨6,.phase⟩,⟨7,.phase⟩,⟨8,.phase⟩,⟨9,.phase⟩,⟨10,.phase⟩,⟨11,.phase⟩,⟨12,.phase⟩,⟨13,.phase⟩,⟨14,.phase⟩,⟨15,.phase⟩,⟨16,.phase⟩,⟨17,.phase⟩,⟨18,.textOnly .lateStores⟩,⟨19,.phase⟩],none⟩) (by kernel_rfl) rfl (fun K hK => ?_);have r0 := PN.out.at (i := 0) rfl;have r1 := PN.out.at (i := 1) rfl;have r2 := PN.out.at (i := 2) rfl;have f0 := PN.out.fz 0;have f1 := PN.out.fz 1;have f2 := PN.out.fz 2;go_simp;clear r0 r1 r2 f0 f1 f2;obtain ⟨V5,hW⟩ : ∃ V5,(((V4.setCell ⟨w3.heap.size,0,none⟩ (.int .i64 (n : Int))).setCell ⟨w3.heap.size,1,none⟩ (.int .i64 (n : Int))).setCell ⟨w3.heap.size,2,none⟩ (.slice am (n * n) cm)) = V5 := ⟨_,rfl⟩
   have BE : Hid (Below W0.heap.size W0 V5) := by unfold Hid;rw [← hW];exact zNA GB.out BN.out _ _ _
   replace GB := BE;clear BE;have MF : Hid (Mc V5 (.agg #[.int .i64 (n : Int),.int .i64 (n : Int),.slice am (n * n) cm]) n n ZS kw) := by unfold Hid;rw [← hW];exact MM.out.wk PN.out _ _ _
   have PF : Hid (Cel V5 w3.heap.size 24 [.int .i64 (n : Int),.int .i64 (n : Int),.slice am (n * n) cm]) := by unfold Hid;rw [← hW];exact PN.out.put3 _ _ _
   clear MM PN;rw [hW];clear hW;refine hK.out _ _ (fun _ => KB.out _ GB.out) ?_;clear hK
   try simp only [Act.put]
   refine zAA (i := 21) (o := ⟨some 4,.assign (.tmp 23),29, "triangle.go:96",#[⟨18,.data⟩,⟨20,.chain⟩,⟨0,.phase⟩,⟨1,.phase⟩,⟨2,.phase⟩,⟨3,.phase⟩,⟨4,.phase⟩,⟨5,.phase⟩,⟨6,.phase⟩,⟨7,.phase⟩,⟨8,.phase⟩,⟨9,.phase⟩,⟨10,.phase⟩,⟨11,.phase⟩,⟨12,.phase⟩,⟨13,.phase⟩,⟨14,.phase⟩,⟨15,.phase⟩,⟨16,.phase⟩,⟨17,.phase⟩,⟨18,.phase⟩,⟨19,.phase⟩,⟨20,.phase⟩],none⟩) (by kernel_rfl) rfl (fun K hK => ?_);go_simp;refine hK.out _ _ (fun h => absurd h (by decide)) ?_;clear hK
   try simp only [Act.put]
   refine zCA (by kernel_rfl) ?_ _;have x0 := PF.out.at (i := 0) rfl;have x1 := PF.out.at (i := 1) rfl;have x2 := PF.out.at (i := 2) rfl;have PR2 := hid (PR.out.step GB.out);have y0 := PR2.out.at (i := 0) rfl;have y1 := PR2.out.at (i := 1) rfl;have y2 := PR2.out.at (i := 2) rfl;have g0 := PR2.out.fz 0;have g1 := PR2.out.fz 1;have g2 := PR2.out.fz 2;have FIN : Hid (zxD w n n ZS kw (.returned (.agg #[.int .i64 (n : Int),.int .i64 (n : Int),.slice am (n * n) cm])) (put3 V5 w.heap.size (.int .i64 (n : Int)) (.int .i64 (n : Int)) (.slice am (n * n) cm))) := ⟨_,rfl,MF.out.wk PR2.out _ _ _,zNA (below_step G.out GB.out) (by omega) _ _ _⟩
   have PG := hid (PR2.out.put3 (.int .i64 (n : Int)) (.int .i64 (n : Int)) (.slice am (n * n) cm));obtain ⟨L,hL⟩ : ∃ L,n * n = L := ⟨_,rfl⟩
   rw [hL] at FIN PG x2 ⊢;clear PR PR2 PF MF GB KB HC ZF G k2 hL;go_wp2;exact bodyPost_ret (zgD Tryz.results53 PG.out _ (by rfl)) rfl FIN.out
  ·skip
   go_simp;obtain ⟨V6,hW⟩ : ∃ V6,w2.alloc mbox = V6 := ⟨_,rfl⟩
   obtain ⟨b,sz6⟩ := alo1 w2 mbox;rw [hW] at b sz6;replace GB := hid (below_step GB.out b);have PN : Hid (Cel V6 w2.heap.size 24 [.int .i64 0,.int .i64 0,.slice none 0 0]) := by unfold Hid;rw [← hW];exact Cel.new _ _ _
   have BN : Hid (W0.heap.size ≤ w2.heap.size) := by unfold Hid;omega
   replace PC := hid (PC.out.now b);rw [hW];clear hW b;refine hK.out _ _ (fun _ => KB.out _ GB.out) ?_;clear hK
   try simp only [Act.put]
   refine zAA (i := 15) (o := ⟨some 21,.call { callee := .value (.func 81),args := #[.tmp 10,.tmp 15,.tmp 20],argTypes := #[3,3,22] },32, "triangle.go:96",#[⟨4,.data⟩,⟨9,.data⟩,⟨14,.data⟩,⟨14,.chain⟩],none⟩) (by kernel_rfl) rfl (fun K hK => ?_);go_simp;go_at_call 81;refine (zeE PC.out ((ZF.out.now GB.out).zis) HFL.out hr hc).mono ?_;rintro e w7 ⟨v2,rfl,hm2,b⟩;have lz7 := (show Below _ _ _ from b).size;replace GB := hid (below_step GB.out b);obtain ⟨am,cm,rfl,-,-⟩ := hm2.mx.form;have MM := hid hm2;clear hm2;replace PN := hid (PN.out.step b);clear b;refine hK.out _ _ (fun _ => KB.out _ GB.out) ?_;clear hK;refine zEA [(16,(.tuple #[(.agg #[.int .i64 (n : Int),.int .i64 (n : Int),.slice am (n * n) cm]),(.int .i64 0)])),(17,(.agg #[.int .i64 (n : Int),.int .i64 (n : Int),.slice am (n * n) cm])),(18,(.int .i64 0))] 3 ?_ (KB.out _ GB.out) ?_
   ·simp only [zPA,gA9,g09,g19,Act.put,sI9,s09,s19]
    (repeat' (first | exact trivial | refine And.intro (Or.inl ⟨by rfl,?_⟩) ?_)) <;> (intro w hSw;(try dsimp only at hSw);go_simp)
   simp only [actV,gA9,g09,g19,Act.put,sI9,s09,s19];refine zAA (i := 20) (o := ⟨none,.store 24 (.tmp 3) (.tmp 22),0, "triangle.go:96",#[⟨19,.data⟩,⟨17,.data⟩,⟨15,.chain⟩,⟨0,.phase⟩,⟨1,.phase⟩,⟨2,.phase⟩,⟨3,.phase⟩,⟨4,.phase⟩,⟨5,.phase⟩,⟨6,.phase⟩,⟨7,.phase⟩,⟨8,.phase⟩,⟨9,.phase⟩,⟨10,.phase⟩,⟨11,.phase⟩,⟨12,.phase⟩,⟨13,.phase⟩,⟨14,.phase⟩,⟨15,.phase⟩,⟨16,.phase⟩,⟨17,.phase⟩,⟨18,.textOnly .lateStores⟩,⟨19,.phase⟩],none⟩) (by kernel_rfl) rfl (fun K hK => ?_);have r0 := PN.out.at (i := 0) rfl;have r1 := PN.out.at (i := 1) rfl;have r2 := PN.out.at (i := 2) rfl;have f0 := PN.out.fz 0;have f1 := PN.out.fz 1;have f2 := PN.out.fz 2;go_simp;clear r0 r1 r2 f0 f1 f2;obtain ⟨V8,hW⟩ : ∃ V8,(((w7.setCell ⟨w2.heap.size,0,none⟩ (.int .i64 (n : Int))).setCell ⟨w2.heap.size,1,none⟩ (.int .i64 (n : Int))).setCell ⟨w2.heap.size,2,none⟩ (.slice am (n * n) cm)) = V8 := ⟨_,rfl⟩
   have BE : Hid (Below W0.heap.size W0 V8) := by unfold Hid;rw [← hW];exact zNA GB.out BN.out _ _ _
   replace GB := BE;clear BE;have MF : Hid (Mc V8 (.agg #[.int .i64 (n : Int),.int .i64 (n : Int),.slice am (n * n) cm]) n n ZS kw) := by unfold Hid;rw [← hW];exact MM.out.wk PN.out _ _ _
   have PF : Hid (Cel V8 w2.heap.size 24 [.int .i64 (n : Int),.int .i64 (n : Int),.slice am (n * n) cm]) := by unfold Hid;rw [← hW];exact PN.out.put3 _ _ _
   clear MM PN;rw [hW];clear hW;refine hK.out _ _ (fun _ => KB.out _ GB.out) ?_;clear hK
   try simp only [Act.put]
   refine zAA (i := 21) (o := ⟨some 4,.assign (.tmp 23),29, "triangle.go:96",#[⟨18,.data⟩,⟨20,.chain⟩,⟨0,.phase⟩,⟨1,.phase⟩,⟨2,.phase⟩,⟨3,.phase⟩,⟨4,.phase⟩,⟨5,.phase⟩,⟨6,.phase⟩,⟨7,.phase⟩,⟨8,.phase⟩,⟨9,.phase⟩,⟨10,.phase⟩,⟨11,.phase⟩,⟨12,.phase⟩,⟨13,.phase⟩,⟨14,.phase⟩,⟨15,.phase⟩,⟨16,.phase⟩,⟨17,.phase⟩,⟨18,.phase⟩,⟨19,.phase⟩,⟨20,.phase⟩],none⟩) (by kernel_rfl) rfl (fun K hK => ?_);go_simp;refine hK.out _ _ (fun h => absurd h (by decide)) ?_;clear hK
   try simp only [Act.put]
   refine zCA (by kernel_rfl) ?_ _;have x0 := PF.out.at (i := 0) rfl;have x1 := PF.out.at (i := 1) rfl;have x2 := PF.out.at (i := 2) rfl;have PR2 := hid (PR.out.step GB.out);have y0 := PR2.out.at (i := 0) rfl;have y1 := PR2.out.at (i := 1) rfl;have y2 := PR2.out.at (i := 2) rfl;have g0 := PR2.out.fz 0;have g1 := PR2.out.fz 1;have g2 := PR2.out.fz 2;have FIN : Hid (zxD w n n ZS kw (.returned (.agg #[.int .i64 (n : Int),.int .i64 (n : Int),.slice am (n * n) cm])) (put3 V8 w.heap.size (.int .i64 (n : Int)) (.int .i64 (n : Int)) (.slice am (n * n) cm))) := ⟨_,rfl,MF.out.wk PR2.out _ _ _,zNA (below_step G.out GB.out) (by omega) _ _ _⟩
   have PG := hid (PR2.out.put3 (.int .i64 (n : Int)) (.int .i64 (n : Int)) (.slice am (n * n) cm));obtain ⟨L,hL⟩ : ∃ L,n * n = L := ⟨_,rfl⟩
   rw [hL] at FIN PG x2 ⊢;clear PR PR2 PF MF GB KB HC ZF G k2 hL;go_wp2;exact bodyPost_ret (zgD Tryz.results53 PG.out _ (by rfl)) rfl FIN.out
 ·skip
  go_simp;obtain ⟨V9,hW⟩ : ∃ V9,D1.alloc mbox = V9 := ⟨_,rfl⟩
  obtain ⟨b,sz9⟩ := alo1 D1 mbox;rw [hW] at b sz9;replace GB := hid (below_step GB.out b);have PN : Hid (Cel V9 D1.heap.size 24 [.int .i64 0,.int .i64 0,.slice none 0 0]) := by unfold Hid;rw [← hW];exact Cel.new _ _ _
  have BN : Hid (W0.heap.size ≤ D1.heap.size) := by unfold Hid;omega
  rw [hW];clear hW b;refine hK.out _ _ (fun _ => KB.out _ GB.out) ?_;clear hK
  try simp only [Act.put]
  refine zAA (i := 14) (o := ⟨some 20,.call { callee := .value (.func 82),args := #[.tmp 19],argTypes := #[90] },22, "triangle.go:96",#[⟨13,.data⟩],none⟩) (by kernel_rfl) rfl (fun K hK => ?_);go_simp;go_at_call 82;refine (HC.out _ GB.out).mono ?_;rintro e w10 ⟨u,rfl,p1,b⟩;have lz10 := (show Below _ _ _ from b).size;replace GB := hid (below_step GB.out b);have PC := hid p1;obtain ⟨au,cu,rfl,-,-,-,-⟩ := p1.form;clear p1;replace PN := hid (PN.out.step b);clear b;refine hK.out _ _ (fun _ => KB.out _ GB.out) ?_;clear hK;refine zAA (i := 15) (o := ⟨some 21,.call { callee := .value (.func 81),args := #[.tmp 10,.tmp 15,.tmp 20],argTypes := #[3,3,22] },32, "triangle.go:96",#[⟨4,.data⟩,⟨9,.data⟩,⟨14,.data⟩,⟨14,.chain⟩],none⟩) (by kernel_rfl) rfl (fun K hK => ?_);go_simp;go_at_call 81;refine (zeE PC.out ((ZF.out.now GB.out).zis) HFL.out hr hc).mono ?_;rintro e w11 ⟨v2,rfl,hm2,b⟩;have lz11 := (show Below _ _ _ from b).size;replace GB := hid (below_step GB.out b);obtain ⟨am,cm,rfl,-,-⟩ := hm2.mx.form;have MM := hid hm2;clear hm2;replace PN := hid (PN.out.step b);clear b;refine hK.out _ _ (fun _ => KB.out _ GB.out) ?_;clear hK;refine zEA [(16,(.tuple #[(.agg #[.int .i64 (n : Int),.int .i64 (n : Int),.slice am (n * n) cm]),(.int .i64 0)])),(17,(.agg #[.int .i64 (n : Int),.int .i64 (n : Int),.slice am (n * n) cm])),(18,(.int .i64 0))] 3 ?_ (KB.out _ GB.out) ?_
  ·simp only [zPA,gA9,g09,g19,Act.put,sI9,s09,s19]
   (repeat' (first | exact trivial | refine And.intro (Or.inl ⟨by rfl,?_⟩) ?_)) <;> (intro w hSw;(try dsimp only at hSw);go_simp)
  simp only [actV,gA9,g09,g19,Act.put,sI9,s09,s19];refine zAA (i := 20) (o := ⟨none,.store 24 (.tmp 3) (.tmp 22),0, "triangle.go:96",#[⟨19,.data⟩,⟨17,.data⟩,⟨15,.chain⟩,⟨0,.phase⟩,⟨1,.phase⟩,⟨2,.phase⟩,⟨3,.phase⟩,⟨4,.phase⟩,⟨5,.phase⟩,⟨6,.phase⟩,⟨7,.phase⟩,⟨8,.phase⟩,⟨9,.phase⟩,⟨10,.phase⟩,⟨11,.phase⟩,⟨12,.phase⟩,⟨13,.phase⟩,⟨14,.phase⟩,⟨15,.phase⟩,⟨16,.phase⟩,⟨17,.phase⟩,⟨18,.textOnly .lateStores⟩,⟨19,.phase⟩],none⟩) (by kernel_rfl) rfl (fun K hK => ?_);have r0 := PN.out.at (i := 0) rfl;have r1 := PN.out.at (i := 1) rfl;have r2 := PN.out.at (i := 2) rfl;have f0 := PN.out.fz 0;have f1 := PN.out.fz 1;have f2 := PN.out.fz 2;go_simp;clear r0 r1 r2 f0 f1 f2;obtain ⟨V12,hW⟩ : ∃ V12,(((w11.setCell ⟨D1.heap.size,0,none⟩ (.int .i64 (n : Int))).setCell ⟨D1.heap.size,1,none⟩ (.int .i64 (n : Int))).setCell ⟨D1.heap.size,2,none⟩ (.slice am (n * n) cm)) = V12 := ⟨_,rfl⟩
  have BE : Hid (Below W0.heap.size W0 V12) := by unfold Hid;rw [← hW];exact zNA GB.out BN.out _ _ _
  replace GB := BE;clear BE;have MF : Hid (Mc V12 (.agg #[.int .i64 (n : Int),.int .i64 (n : Int),.slice am (n * n) cm]) n n ZS kw) := by unfold Hid;rw [← hW];exact MM.out.wk PN.out _ _ _
  have PF : Hid (Cel V12 D1.heap.size 24 [.int .i64 (n : Int),.int .i64 (n : Int),.slice am (n * n) cm]) := by unfold Hid;rw [← hW];exact PN.out.put3 _ _ _
  clear MM PN;rw [hW];clear hW;refine hK.out _ _ (fun _ => KB.out _ GB.out) ?_;clear hK
  try simp only [Act.put]
  refine zAA (i := 21) (o := ⟨some 4,.assign (.tmp 23),29, "triangle.go:96",#[⟨18,.data⟩,⟨20,.chain⟩,⟨0,.phase⟩,⟨1,.phase⟩,⟨2,.phase⟩,⟨3,.phase⟩,⟨4,.phase⟩,⟨5,.phase⟩,⟨6,.phase⟩,⟨7,.phase⟩,⟨8,.phase⟩,⟨9,.phase⟩,⟨10,.phase⟩,⟨11,.phase⟩,⟨12,.phase⟩,⟨13,.phase⟩,⟨14,.phase⟩,⟨15,.phase⟩,⟨16,.phase⟩,⟨17,.phase⟩,⟨18,.phase⟩,⟨19,.phase⟩,⟨20,.phase⟩],none⟩) (by kernel_rfl) rfl (fun K hK => ?_);go_simp;refine hK.out _ _ (fun h => absurd h (by decide)) ?_;clear hK
  try simp only [Act.put]
  refine zCA (by kernel_rfl) ?_ _;have x0 := PF.out.at (i := 0) rfl;have x1 := PF.out.at (i := 1) rfl;have x2 := PF.out.at (i := 2) rfl;have PR2 := hid (PR.out.step GB.out);have y0 := PR2.out.at (i := 0) rfl;have y1 := PR2.out.at (i := 1) rfl;have y2 := PR2.out.at (i := 2) rfl;have g0 := PR2.out.fz 0;have g1 := PR2.out.fz 1;have g2 := PR2.out.fz 2;have FIN : Hid (zxD w n n ZS kw (.returned (.agg #[.int .i64 (n : Int),.int .i64 (n : Int),.slice am (n * n) cm])) (put3 V12 w.heap.size (.int .i64 (n : Int)) (.int .i64 (n : Int)) (.slice am (n * n) cm))) := ⟨_,rfl,MF.out.wk PR2.out _ _ _,zNA (below_step G.out GB.out) (by omega) _ _ _⟩
  have PG := hid (PR2.out.put3 (.int .i64 (n : Int)) (.int .i64 (n : Int)) (.slice am (n * n) cm));obtain ⟨L,hL⟩ : ∃ L,n * n = L := ⟨_,rfl⟩
  rw [hL] at FIN PG x2 ⊢;clear PR PR2 PF MF GB KB HC ZF G k2 hL;go_wp2;exact bodyPost_ret (zgD Tryz.results53 PG.out _ (by rfl)) rfl FIN.out
end Go.Proofs.YtfeofdpnhhiclaaGreat
