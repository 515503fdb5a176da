import Derived.Test.YtnfpjgmmhhdgbaaGreatQOf11
import Derived.Test.YtnfpjgmmhhdgbaaGreatQFil9ToRowsOf9
import Derived.Test.YtnfpjgmmhhdgbaaGreatQLm6ToTy9
set_option maxRecDepth 100000
set_option maxHeartbeats 6400000
set_option linter.unusedVariables false
set_option linter.unusedSimpArgs false
namespace Go.Proofs.YtnfpjgmmhhdgbaaGreat
open Go.RowKit
theorem zrC {w : World} {B r c : Nat} {at_ : Value} {ps : List (Value × Value)} {zs : List Int} {k : Nat} (hA : Prs B w at_ ps) (hz : Zis w ps zs k) (hl : zs.length = r * c) (hr : r ≤ 64) (hc : c ≤ 64) :
  Calls Tryz.prog 72 #[.int .i64 (r : Int),.int .i64 (c : Int),at_] w (zIF w r c zs k) := by
 obtain ⟨W0,hW⟩ : ∃ W0,w.alloc mbox = W0 := ⟨_,rfl⟩
 obtain ⟨b0,sz0⟩ := alo1 w mbox;rw [hW] at b0 sz0;have PR := hid (zFE hW);have HE := hid (eachLeast_any (hA.now b0) (hz.now b0));have HS := hid (zLD (w := W0) hr hc);obtain ⟨a,cap,rfl,-,-,-,-⟩ := hA.form;have hm0 := zLF (i := r) (c := c) hr hc;have hpl : ps.length = r * c := by rw [hz.1,hl]
 rw [hpl] at HE ⊢;obtain ⟨n,hn⟩ : ∃ n,r * c = n := ⟨_,rfl⟩
 rw [hn] at hm0 HE ⊢;have hm2 := hm0;rw [IntKind.wrap_i64] at hm2;have q0 : ((n : Int) != (n : Int)) = false := by simp
 have G0 := hid b0;have EW := hid hW;have HL := hid hl;have HN := hid hn;have SZ := hid sz0;clear b0 sz0 hW hA hz hl hn hpl;go_enter Tryz.func72,Tryz.ntmps72;go_wp2_with fail;rw [EW.out];refine HS.out.mono ?_;rintro e w1 ⟨rfl,hw1⟩;have hw2 := hw1.symm;subst hw2;clear hw1 HS;go_wp2_with fail;refine HE.out.mono ?_;rintro e w2 ⟨u,qs,rfl,p1,p2,b⟩;have PR2 := hid (PR.out.step b);have G2 := hid (below_step G0.out b);obtain ⟨au,cu,rfl,-,-,-,-⟩ := p1.form;have hql : qs.length = n := by rw [p2.1,HL.out,HN.out]
 rw [hql] at p1 ⊢;have FIN : Hid (zIF w r c zs k (.returned (.tuple #[.agg #[.int .i64 (r : Int),.int .i64 (c : Int),.slice au n cu],.int .i64 0])) (put3 w2 w.heap.size (.int .i64 (r : Int)) (.int .i64 (c : Int)) (.slice au n cu))) :=
  ⟨_,rfl,⟨_,qs,rfl,(p1.put3 (by have := SZ.out;omega) _ _ _).mono (Nat.zero_le _),p2.wk (PR2.out.wk3 _ _ _),HL.out,hr,hc⟩,zTA G2.out (by omega) _ _ _⟩
 have PF := hid (PR2.out.put3 (.int .i64 (r : Int)) (.int .i64 (c : Int)) (.slice au n cu));have r0 := PR2.out.at (i := 0) rfl;have r1 := PR2.out.at (i := 1) rfl;have r2 := PR2.out.at (i := 2) rfl;have f0 := PR2.out.fz 0;have f1 := PR2.out.fz 1;have f2 := PR2.out.fz 2;clear HE p1 p2 b PR G0 G2 EW hql;go_wp2;exact bodyPost_ret (zkD Tryz.results72 PF.out _ (by rfl) (by rfl)) rfl FIN.out
theorem Sht.same9 {B c k : Nat} {w : World} {lv : Value} {gs : List Nat} {m : List (List Int)} {pss : List (List (Value × Value))} (h : Sht B w lv c gs m k) (hz : Zcss w pss m k) : zgG c pss := same_of hz h.2.2.2.2.1
theorem matrix_any {w : World} {B r c k : Nat} {lv : Value} {gs : List Nat} {m : List (List Int)} (h : Sht B w lv c gs m k) (hm : m.length = r) (hr : r ≤ 64) (hc : c ≤ 64) :
  Calls Tryz.prog 41 #[.agg #[.int .i64 (c : Int),lv]] w (zvD w r c m.flatten k) := by
 obtain ⟨pss,hp,hz⟩ := h.prr (by omega) hc;have hsm := h.same9 hz;have hfl : m.flatten.length = r * c := by
  have := zBD (m := c) (pss := m) h.2.2.2.2.1 r (by omega);rw [List.take_of_length_le (by omega)] at this;exact this
 obtain ⟨a,cap,rfl,hcap,-⟩ := h.form;rw [hm] at hp hcap ⊢;obtain ⟨W0,hW⟩ : ∃ W0,(w.alloc (.cells #[.int .i64 (c : Int),.slice a r cap] 87)).alloc mbox = W0 := ⟨_,rfl⟩
 obtain ⟨b0,sz0⟩ := zVA w (.cells #[.int .i64 (c : Int),.slice a r cap] 87) mbox;rw [hW] at b0 sz0;have pa : Cel W0 w.heap.size 87 [.int .i64 (c : Int),.slice a r cap] := by
  rw [← hW];exact (Cel.new w 87 [.int .i64 (c : Int),.slice a r cap]).step ((Below.refl _ _).alloc (Nat.le_refl _) _)
 have PR : Hid (Cel W0 (w.heap.size + 1) 24 [.int .i64 0,.int .i64 0,.slice none 0 0]) := by
  unfold Hid;rw [← hW];have := Cel.new (w.alloc (.cells #[.int .i64 (c : Int),.slice a r cap] 87)) 24 [.int .i64 0,.int .i64 0,.slice none 0 0]
  simpa using this
 have hrc : r * c ≤ 64 * 64 := Nat.mul_le_mul hr hc;have HPL : Hid (pss.length = r) := by unfold Hid;rw [hz.1,hm]
 have HC : Hid (∀ w',Below W0.heap.size W0 w' → Calls Tryz.prog 73 #[.slice a r cap] w' (zYG w' pss.flatten)) := fun w' hb => zpD ((hp.now b0).now hb) hsm (by rw [HPL.out];omega) (by omega)
 have ZF := hid (((Zcss.flat hz).now b0));obtain ⟨FT,hFT⟩ : ∃ FT,pss.flatten = FT := ⟨_,rfl⟩
 obtain ⟨ZS,hZS⟩ : ∃ ZS,m.flatten = ZS := ⟨_,rfl⟩
 rw [hFT] at HC ZF;rw [hZS] at ZF hfl ⊢;have HFL := hid hfl;have k0 := pa.at (i := 0) rfl;have k1 := pa.at (i := 1) rfl;have G := hid b0;have EW := hid hW;have SZ := hid sz0;clear h hp hz hsm hfl b0 sz0 hW pa hFT hZS HPL;go_enter Tryz.func41,Tryz.ntmps41;go_wp2_with fail;rw [EW.out];clear EW;have KB : Hid (∀ w',Below W0.heap.size W0 w' → w'.cell? ⟨w.heap.size,0,none⟩ = some (.int .i64 (c : Int)) ∧ w'.cell? ⟨w.heap.size,1,none⟩ = some (.slice a r cap)) := fun w' h => ⟨cnow h k0,cnow h k1⟩
 refine zEA (fun w' => w'.cell? ⟨w.heap.size,0,none⟩ = some (.int .i64 (c : Int)) ∧ w'.cell? ⟨w.heap.size,1,none⟩ = some (.slice a r cap)) 14 (by kernel_rfl) ?_;obtain ⟨D1,hD⟩ : ∃ D1,W0.drew = D1 := ⟨_,rfl⟩
 have GB : Hid (Below W0.heap.size W0 D1) := by unfold Hid;rw [← hD];exact (Below.refl _ _).drew
 rw [hD];clear hD;have ld0 := GB.out.size;refine zBA (i := 0) (oi := ⟨some 6,.fieldAddr 87 (.tmp 1) 1,0, "tape.go:144",#[],none⟩) (v := (.pointer (some ⟨w.heap.size,1,none⟩))) rfl (by kernel_rfl) (fun _ _ _ h => h) (Or.inl ⟨by rfl,?_⟩) (KB.out _ GB.out) ?_
 ·intro w hSw;(try dsimp only at hSw);go_simp
 simp only [Act.put,sIb,sC0,sC1];refine zBA (i := 1) (oi := ⟨some 7,.load 60 (.tmp 6),60, "tape.go:144",#[⟨0,.data⟩],none⟩) (v := (.slice a r cap)) rfl (by kernel_rfl) (fun _ _ _ h => h) (Or.inl ⟨by rfl,?_⟩) (KB.out _ GB.out) ?_
 ·intro w hSw;(try dsimp only at hSw);go_simp
 simp only [Act.put,sIb,sC0,sC1];refine zBA (i := 2) (oi := ⟨some 8,.call { callee := .builtin .len,args := #[.tmp 7],argTypes := #[60] },3, "tape.go:144",#[⟨1,.data⟩],none⟩) (v := (.int .i64 (r : Int))) rfl (by kernel_rfl) (fun _ _ _ h => h) (Or.inl ⟨by rfl,?_⟩) (KB.out _ GB.out) ?_
 ·intro w hSw;(try dsimp only at hSw);go_simp
 simp only [Act.put,sIb,sC0,sC1];refine zBA (i := 3) (oi := ⟨some 9,.fieldAddr 87 (.tmp 1) 0,0, "tape.go:144",#[],none⟩) (v := (.pointer (some ⟨w.heap.size,0,none⟩))) rfl (by kernel_rfl) (fun _ _ _ h => h) (Or.inl ⟨by rfl,?_⟩) (KB.out _ GB.out) ?_
 ·intro w hSw;(try dsimp only at hSw);go_simp
 simp only [Act.put,sIb,sC0,sC1];refine zBA (i := 4) (oi := ⟨some 10,.load 3 (.tmp 9),3, "tape.go:144",#[⟨3,.data⟩],none⟩) (v := (.int .i64 (c : Int))) rfl (by kernel_rfl) (fun _ _ _ h => h) (Or.inl ⟨by rfl,?_⟩) (KB.out _ GB.out) ?_
 ·intro w hSw;(try dsimp only at hSw);go_simp
 simp only [Act.put,sIb,sC0,sC1];refine zBA (i := 5) (oi := ⟨some 11,.fieldAddr 87 (.tmp 1) 1,0, "tape.go:144",#[],none⟩) (v := (.pointer (some ⟨w.heap.size,1,none⟩))) rfl (by kernel_rfl) (fun _ _ _ h => h) (Or.inl ⟨by rfl,?_⟩) (KB.out _ GB.out) ?_
 ·intro w hSw;(try dsimp only at hSw);go_simp
 simp only [Act.put,sIb,sC0,sC1];refine zBA (i := 6) (oi := ⟨some 12,.load 60 (.tmp 11),60, "tape.go:144",#[⟨5,.data⟩],none⟩) (v := (.slice a r cap)) rfl (by kernel_rfl) (fun _ _ _ h => h) (Or.inl ⟨by rfl,?_⟩) (KB.out _ GB.out) ?_
 ·intro w hSw;(try dsimp only at hSw);go_simp
 simp only [Act.put,sIb,sC0,sC1];refine zOA (i := 7) (j := 12) (oi := ⟨some 13,.call { callee := .value (.func 73),args := #[.tmp 12],argTypes := #[60] },22, "tape.go:144",#[⟨6,.data⟩],none⟩) (oj := ⟨some 3,.alloc 24,0, "tape.go:144",#[],none⟩) (by kernel_rfl) rfl rfl (fun K hK => ?_) (fun K hK => ?_)
 ·skip
  go_simp;go_at_call 73;refine (HC.out _ GB.out).mono ?_;rintro e w2 ⟨u,rfl,p1,b⟩;have lz2 := (show Below _ _ _ from b).size;replace GB := hid (below_step GB.out b);have PC := hid p1;obtain ⟨au,cu,rfl,-,-,-,-⟩ := p1.form;clear p1;clear b;refine hK.out _ _ (fun _ => KB.out _ GB.out) ?_;clear hK;refine zOA (i := 8) (j := 12) (oi := ⟨some 14,.call { callee := .value (.func 72),args := #[.tmp 8,.tmp 10,.tmp 13],argTypes := #[3,3,22] },33, "tape.go:144",#[⟨2,.data⟩,⟨4,.data⟩,⟨7,.data⟩,⟨7,.chain⟩],none⟩) (oj := ⟨some 3,.alloc 24,0, "tape.go:144",#[],none⟩) (by kernel_rfl) rfl rfl (fun K hK => ?_) (fun K hK => ?_)
  ·skip
   go_simp;go_at_call 72;refine (zrC PC.out ((ZF.out.now GB.out).zis) HFL.out hr hc).mono ?_;rintro e w3 ⟨v2,rfl,hm2,b⟩;have lz3 := (show Below _ _ _ from b).size;replace GB := hid (below_step GB.out b);obtain ⟨am,cm,rfl,-,-⟩ := hm2.mx.form;have MM := hid hm2;clear hm2;clear b;refine hK.out _ _ (fun _ => KB.out _ GB.out) ?_;clear hK;refine zBA (i := 9) (oi := ⟨some 5,.move (.tmp 14),33, "tape.go:144",#[⟨8,.data⟩],none⟩) (v := (.tuple #[(.agg #[.int .i64 (r : Int),.int .i64 (c : Int),.slice am (r * c) cm]),(.int .i64 0)])) rfl (by kernel_rfl) (fun _ _ _ h => h) (Or.inl ⟨by rfl,?_⟩) (KB.out _ GB.out) ?_
   ·intro w hSw;(try dsimp only at hSw);go_simp
   simp only [Act.put,sIb,sC0,sC1];refine zBA (i := 10) (oi := ⟨some 15,.extract (.tmp 5) 0,24, "tape.go:144",#[⟨9,.data⟩],none⟩) (v := (.agg #[.int .i64 (r : Int),.int .i64 (c : Int),.slice am (r * c) cm])) rfl (by kernel_rfl) (fun _ _ _ h => h) (Or.inl ⟨by rfl,?_⟩) (KB.out _ GB.out) ?_
   ·intro w hSw;(try dsimp only at hSw);go_simp
   simp only [Act.put,sIb,sC0,sC1];refine zBA (i := 11) (oi := ⟨some 16,.extract (.tmp 5) 1,28, "tape.go:144",#[⟨9,.data⟩,⟨13,.gcOnly .lateStores⟩],none⟩) (v := (.int .i64 0)) rfl (by kernel_rfl) (fun _ _ _ h => h) (Or.inl ⟨by rfl,?_⟩) (KB.out _ GB.out) ?_
   ·intro w hSw;(try dsimp only at hSw);go_simp
   simp only [Act.put,sIb,sC0,sC1];refine zAA (i := 12) (o := ⟨some 3,.alloc 24,0, "tape.go:144",#[],none⟩) (by kernel_rfl) rfl (fun K hK => ?_);go_simp;obtain ⟨V4,hW⟩ : ∃ V4,w3.alloc mbox = V4 := ⟨_,rfl⟩
   obtain ⟨b,sz4⟩ := alo1 w3 mbox;rw [hW] at b sz4;replace GB := hid (below_step GB.out b);have PN : Hid (Cel V4 w3.heap.size 24 [.int .i64 0,.int .i64 0,.slice none 0 0]) := by unfold Hid;rw [← hW];exact Cel.new _ _ _
   have BN : Hid (W0.heap.size ≤ w3.heap.size) := by unfold Hid;omega
   replace MM := hid (MM.out.now b);rw [hW];clear hW b;refine hK.out _ _ (fun _ => KB.out _ GB.out) ?_;clear hK
   try simp only [Act.put]
   refine zAA (i := 13) (o := ⟨none,.store 24 (.tmp 3) (.tmp 15),0, "tape.go:144",#[⟨12,.data⟩,⟨10,.data⟩,⟨8,.chain⟩,⟨0,.phase⟩,⟨1,.phase⟩,⟨2,.phase⟩,⟨3,.phase⟩,⟨4,.phase⟩,⟨5,.phase⟩,⟨6,.phase⟩,⟨7,.phase⟩,⟨8,.phase⟩,⟨9,.phase⟩,⟨10,.phase⟩,⟨11,.textOnly .lateStores⟩,⟨12,.phase⟩],none⟩) (by kernel_rfl) rfl (fun K hK => ?_);have r0 := PN.out.at (i := 0) rfl;have r1 := PN.out.at (i := 1) rfl;have r2 := PN.out.at (i := 2) rfl;have f0 := PN.out.fz 0;have f1 := PN.out.fz 1;have f2 := PN.out.fz 2;go_simp;clear r0 r1 r2 f0 f1 f2;obtain ⟨V5,hW⟩ : ∃ V5,(((V4.setCell ⟨w3.heap.size,0,none⟩ (.int .i64 (r : Int))).setCell ⟨w3.heap.size,1,none⟩ (.int .i64 (c : Int))).setCell ⟨w3.heap.size,2,none⟩ (.slice am (r * c) cm)) = V5 := ⟨_,rfl⟩
   have BE : Hid (Below W0.heap.size W0 V5) := by unfold Hid;rw [← hW];exact zTA GB.out BN.out _ _ _
   replace GB := BE;clear BE;have MF : Hid (Mc V5 (.agg #[.int .i64 (r : Int),.int .i64 (c : Int),.slice am (r * c) cm]) r c ZS k) := by unfold Hid;rw [← hW];exact MM.out.wk PN.out _ _ _
   have PF : Hid (Cel V5 w3.heap.size 24 [.int .i64 (r : Int),.int .i64 (c : Int),.slice am (r * c) cm]) := by unfold Hid;rw [← hW];exact PN.out.put3 _ _ _
   clear MM PN;rw [hW];clear hW;refine hK.out _ _ (fun _ => KB.out _ GB.out) ?_;clear hK
   try simp only [Act.put]
   refine zAA (i := 14) (o := ⟨some 4,.assign (.tmp 16),28, "tape.go:144",#[⟨11,.data⟩,⟨13,.chain⟩,⟨0,.phase⟩,⟨1,.phase⟩,⟨2,.phase⟩,⟨3,.phase⟩,⟨4,.phase⟩,⟨5,.phase⟩,⟨6,.phase⟩,⟨7,.phase⟩,⟨8,.phase⟩,⟨9,.phase⟩,⟨10,.phase⟩,⟨11,.phase⟩,⟨12,.phase⟩,⟨13,.phase⟩],none⟩) (by kernel_rfl) rfl (fun K hK => ?_);go_simp;refine hK.out _ _ (fun h => absurd h (by decide)) ?_;clear hK
   try simp only [Act.put]
   refine zDA (by kernel_rfl) ?_ _;have x0 := PF.out.at (i := 0) rfl;have x1 := PF.out.at (i := 1) rfl;have x2 := PF.out.at (i := 2) rfl;have PR2 := hid (PR.out.step GB.out);have y0 := PR2.out.at (i := 0) rfl;have y1 := PR2.out.at (i := 1) rfl;have y2 := PR2.out.at (i := 2) rfl;have g0 := PR2.out.fz 0;have g1 := PR2.out.fz 1;have g2 := PR2.out.fz 2;have FIN : Hid (zvD w r c ZS k (.returned (.agg #[.int .i64 (r : Int),.int .i64 (c : Int),.slice am (r * c) cm])) (put3 V5 (w.heap.size + 1) (.int .i64 (r : Int)) (.int .i64 (c : Int)) (.slice am (r * c) cm))) := ⟨_,rfl,MF.out.wk PR2.out _ _ _,zTA (below_step G.out GB.out) (by omega) _ _ _⟩
   have PG := hid (PR2.out.put3 (.int .i64 (r : Int)) (.int .i64 (c : Int)) (.slice am (r * c) cm));obtain ⟨L,hL⟩ : ∃ L,r * c = L := ⟨_,rfl⟩
   rw [hL] at FIN PG x2 ⊢;clear PR PR2 PF MF GB KB HC ZF G k0 k1 hL;go_wp2;exact bodyPost_ret (zuE Tryz.results41 PG.out _ (by rfl)) rfl FIN.out
  ·skip
   go_simp;obtain ⟨V6,hW⟩ : ∃ V6,w2.alloc mbox = V6 := ⟨_,rfl⟩
   obtain ⟨b,sz6⟩ := alo1 w2 mbox;rw [hW] at b sz6;replace GB := hid (below_step GB.out b);have PN : Hid (Cel V6 w2.heap.size 24 [.int .i64 0,.int .i64 0,.slice none 0 0]) := by unfold Hid;rw [← hW];exact Cel.new _ _ _
   have BN : Hid (W0.heap.size ≤ w2.heap.size) := by unfold Hid;omega
   replace PC := hid (PC.out.now b);rw [hW];clear hW b;refine hK.out _ _ (fun _ => KB.out _ GB.out) ?_;clear hK
   try simp only [Act.put]
   refine zAA (i := 8) (o := ⟨some 14,.call { callee := .value (.func 72),args := #[.tmp 8,.tmp 10,.tmp 13],argTypes := #[3,3,22] },33, "tape.go:144",#[⟨2,.data⟩,⟨4,.data⟩,⟨7,.data⟩,⟨7,.chain⟩],none⟩) (by kernel_rfl) rfl (fun K hK => ?_);go_simp;go_at_call 72;refine (zrC PC.out ((ZF.out.now GB.out).zis) HFL.out hr hc).mono ?_;rintro e w7 ⟨v2,rfl,hm2,b⟩;have lz7 := (show Below _ _ _ from b).size;replace GB := hid (below_step GB.out b);obtain ⟨am,cm,rfl,-,-⟩ := hm2.mx.form;have MM := hid hm2;clear hm2;replace PN := hid (PN.out.step b);clear b;refine hK.out _ _ (fun _ => KB.out _ GB.out) ?_;clear hK;refine zBA (i := 9) (oi := ⟨some 5,.move (.tmp 14),33, "tape.go:144",#[⟨8,.data⟩],none⟩) (v := (.tuple #[(.agg #[.int .i64 (r : Int),.int .i64 (c : Int),.slice am (r * c) cm]),(.int .i64 0)])) rfl (by kernel_rfl) (fun _ _ _ h => h) (Or.inl ⟨by rfl,?_⟩) (KB.out _ GB.out) ?_
   ·intro w hSw;(try dsimp only at hSw);go_simp
   simp only [Act.put,sIb,sC0,sC1];refine zBA (i := 10) (oi := ⟨some 15,.extract (.tmp 5) 0,24, "tape.go:144",#[⟨9,.data⟩],none⟩) (v := (.agg #[.int .i64 (r : Int),.int .i64 (c : Int),.slice am (r * c) cm])) rfl (by kernel_rfl) (fun _ _ _ h => h) (Or.inl ⟨by rfl,?_⟩) (KB.out _ GB.out) ?_
   ·intro w hSw;(try dsimp only at hSw);go_simp
   simp only [Act.put,sIb,sC0,sC1];refine zBA (i := 11) (oi := ⟨some 16,.extract (.tmp 5) 1,28, "tape.go:144",#[⟨9,.data⟩,⟨13,.gcOnly .lateStores⟩],none⟩) (v := (.int .i64 0)) rfl (by kernel_rfl) (fun _ _ _ h => h) (Or.inl ⟨by rfl,?_⟩) (KB.out _ GB.out) ?_
   ·intro w hSw;(try dsimp only at hSw);go_simp
   simp only [Act.put,sIb,sC0,sC1];refine zAA (i := 13) (o := ⟨none,.store 24 (.tmp 3) (.tmp 15),0, "tape.go:144",#[⟨12,.data⟩,⟨10,.data⟩,⟨8,.chain⟩,⟨0,.phase⟩,⟨1,.phase⟩,⟨2,.phase⟩,⟨3,.phase⟩,⟨4,.phase⟩,⟨5,.phase⟩,⟨6,.phase⟩,⟨7,.phase⟩,⟨8,.phase⟩,⟨9,.phase⟩,⟨10,.phase⟩,⟨11,.textOnly .lateStores⟩,⟨12,.phase⟩],none⟩) (by kernel_rfl) rfl (fun K hK => ?_);have r0 := PN.out.at (i := 0) rfl;have r1 := PN.out.at (i := 1) rfl;have r2 := PN.out.at (i := 2) rfl;have f0 := PN.out.fz 0;have f1 := PN.out.fz 1;have f2 := PN.out.fz 2;go_simp;clear r0 r1 r2 f0 f1 f2;obtain ⟨V8,hW⟩ : ∃ V8,(((w7.setCell ⟨w2.heap.size,0,none⟩ (.int .i64 (r : Int))).setCell ⟨w2.heap.size,1,none⟩ (.int .i64 (c : Int))).setCell ⟨w2.heap.size,2,none⟩ (.slice am (r * c) cm)) = V8 := ⟨_,rfl⟩
   have BE : Hid (Below W0.heap.size W0 V8) := by unfold Hid;rw [← hW];exact zTA GB.out BN.out _ _ _
   replace GB := BE;clear BE;have MF : Hid (Mc V8 (.agg #[.int .i64 (r : Int),.int .i64 (c : Int),.slice am (r * c) cm]) r c ZS k) := by unfold Hid;rw [← hW];exact MM.out.wk PN.out _ _ _
   have PF : Hid (Cel V8 w2.heap.size 24 [.int .i64 (r : Int),.int .i64 (c : Int),.slice am (r * c) cm]) := by unfold Hid;rw [← hW];exact PN.out.put3 _ _ _
   clear MM PN;rw [hW];clear hW;refine hK.out _ _ (fun _ => KB.out _ GB.out) ?_;clear hK
   try simp only [Act.put]
   refine zAA (i := 14) (o := ⟨some 4,.assign (.tmp 16),28, "tape.go:144",#[⟨11,.data⟩,⟨13,.chain⟩,⟨0,.phase⟩,⟨1,.phase⟩,⟨2,.phase⟩,⟨3,.phase⟩,⟨4,.phase⟩,⟨5,.phase⟩,⟨6,.phase⟩,⟨7,.phase⟩,⟨8,.phase⟩,⟨9,.phase⟩,⟨10,.phase⟩,⟨11,.phase⟩,⟨12,.phase⟩,⟨13,.phase⟩],none⟩) (by kernel_rfl) rfl (fun K hK => ?_);go_simp;refine hK.out _ _ (fun h => absurd h (by decide)) ?_;clear hK
   try simp only [Act.put]
   refine zDA (by kernel_rfl) ?_ _;have x0 := PF.out.at (i := 0) rfl;have x1 := PF.out.at (i := 1) rfl;have x2 := PF.out.at (i := 2) rfl;have PR2 := hid (PR.out.step GB.out);have y0 := PR2.out.at (i := 0) rfl;have y1 := PR2.out.at (i := 1) rfl;have y2 := PR2.out.at (i := 2) rfl;have g0 := PR2.out.fz 0;have g1 := PR2.out.fz 1;have g2 := PR2.out.fz 2;have FIN : Hid (zvD w r c ZS k (.returned (.agg #[.int .i64 (r : Int),.int .i64 (c : Int),.slice am (r * c) cm])) (put3 V8 (w.heap.size + 1) (.int .i64 (r : Int)) (.int .i64 (c : Int)) (.slice am (r * c) cm))) := ⟨_,rfl,MF.out.wk PR2.out _ _ _,zTA (below_step G.out GB.out) (by omega) _ _ _⟩
   have PG := hid (PR2.out.put3 (.int .i64 (r : Int)) (.int .i64 (c : Int)) (.slice am (r * c) cm));obtain ⟨L,hL⟩ : ∃ L,r * c = L := ⟨_,rfl⟩
   rw [hL] at FIN PG x2 ⊢;clear PR PR2 PF MF GB KB HC ZF G k0 k1 hL;go_wp2;exact bodyPost_ret (zuE Tryz.results41 PG.out _ (by rfl)) rfl FIN.out
 ·skip
  go_simp;obtain ⟨V9,hW⟩ : ∃ V9,D1.alloc mbox = V9 := ⟨_,rfl⟩
  obtain ⟨b,sz9⟩ := alo1 D1 mbox;rw [hW] at b sz9;replace GB := hid (below_step GB.out b);have PN : Hid (Cel V9 D1.heap.size 24 [.int .i64 0,.int .i64 0,.slice none 0 0]) := by unfold Hid;rw [← hW];exact Cel.new _ _ _
  have BN : Hid (W0.heap.size ≤ D1.heap.size) := by unfold Hid;omega
  rw [hW];clear hW b;refine hK.out _ _ (fun _ => KB.out _ GB.out) ?_;clear hK
  try simp only [Act.put]
  refine zAA (i := 7) (o := ⟨some 13,.call { callee := .value (.func 73),args := #[.tmp 12],argTypes := #[60] },22, "tape.go:144",#[⟨6,.data⟩],none⟩) (by kernel_rfl) rfl (fun K hK => ?_);go_simp;go_at_call 73;refine (HC.out _ GB.out).mono ?_;rintro e w10 ⟨u,rfl,p1,b⟩;have lz10 := (show Below _ _ _ from b).size;replace GB := hid (below_step GB.out b);have PC := hid p1;obtain ⟨au,cu,rfl,-,-,-,-⟩ := p1.form;clear p1;replace PN := hid (PN.out.step b);clear b;refine hK.out _ _ (fun _ => KB.out _ GB.out) ?_;clear hK;refine zAA (i := 8) (o := ⟨some 14,.call { callee := .value (.func 72),args := #[.tmp 8,.tmp 10,.tmp 13],argTypes := #[3,3,22] },33, "tape.go:144",#[⟨2,.data⟩,⟨4,.data⟩,⟨7,.data⟩,⟨7,.chain⟩],none⟩) (by kernel_rfl) rfl (fun K hK => ?_);go_simp;go_at_call 72;refine (zrC PC.out ((ZF.out.now GB.out).zis) HFL.out hr hc).mono ?_;rintro e w11 ⟨v2,rfl,hm2,b⟩;have lz11 := (show Below _ _ _ from b).size;replace GB := hid (below_step GB.out b);obtain ⟨am,cm,rfl,-,-⟩ := hm2.mx.form;have MM := hid hm2;clear hm2;replace PN := hid (PN.out.step b);clear b;refine hK.out _ _ (fun _ => KB.out _ GB.out) ?_;clear hK;refine zBA (i := 9) (oi := ⟨some 5,.move (.tmp 14),33, "tape.go:144",#[⟨8,.data⟩],none⟩) (v := (.tuple #[(.agg #[.int .i64 (r : Int),.int .i64 (c : Int),.slice am (r * c) cm]),(.int .i64 0)])) rfl (by kernel_rfl) (fun _ _ _ h => h) (Or.inl ⟨by rfl,?_⟩) (KB.out _ GB.out) ?_
  ·intro w hSw;(try dsimp only at hSw);go_simp
  simp only [Act.put,sIb,sC0,sC1];refine zBA (i := 10) (oi := ⟨some 15,.extract (.tmp 5) 0,24, "tape.go:144",#[⟨9,.data⟩],none⟩) (v := (.agg #[.int .i64 (r : Int),.int .i64 (c : Int),.slice am (r * c) cm])) rfl (by kernel_rfl) (fun _ _ _ h => h) (Or.inl ⟨by rfl,?_⟩) (KB.out _ GB.out) ?_
  ·intro w hSw;(try dsimp only at hSw);go_simp
  simp only [Act.put,sIb,sC0,sC1];refine zBA (i := 11) (oi := ⟨some 16,.extract (.tmp 5) 1,28, "tape.go:144",#[⟨9,.data⟩,⟨13,.gcOnly .lateStores⟩],none⟩) (v := (.int .i64 0)) rfl (by kernel_rfl) (fun _ _ _ h => h) (Or.inl ⟨by rfl,?_⟩) (KB.out _ GB.out) ?_
  ·intro w hSw;(try dsimp only at hSw);go_simp
  simp only [Act.put,sIb,sC0,sC1];refine zAA (i := 13) (o := ⟨none,.store 24 (.tmp 3) (.tmp 15),0, "tape.go:144",#[⟨12,.data⟩,⟨10,.data⟩,⟨8,.chain⟩,⟨0,.phase⟩,⟨1,.phase⟩,⟨2,.phase⟩,⟨3,.phase⟩,⟨4,.phase⟩,⟨5,.phase⟩,⟨6,.phase⟩,⟨7,.phase⟩,⟨8,.phase⟩,⟨9,.phase⟩,⟨10,.phase⟩,⟨11,.textOnly .lateStores⟩,⟨12,.phase⟩],none⟩) (by kernel_rfl) rfl (fun K hK => ?_);have r0 := PN.out.at (i := 0) rfl;have r1 := PN.out.at (i := 1) rfl;have r2 := PN.out.at (i := 2) rfl;have f0 := PN.out.fz 0;have f1 := PN.out.fz 1;have f2 := PN.out.fz 2;go_simp;clear r0 r1 r2 f0 f1 f2;obtain ⟨V12,hW⟩ : ∃ V12,(((w11.setCell ⟨D1.heap.size,0,none⟩ (.int .i64 (r : Int))).setCell ⟨D1.heap.size,1,none⟩ (.int .i64 (c : Int))).setCell ⟨D1.heap.size,2,none⟩ (.slice am (r * c) cm)) = V12 := ⟨_,rfl⟩
  have BE : Hid (Below W0.heap.size W0 V12) := by unfold Hid;rw [← hW];exact zTA GB.out BN.out _ _ _
  replace GB := BE;clear BE;have MF : Hid (Mc V12 (.agg #[.int .i64 (r : Int),.int .i64 (c : Int),.slice am (r * c) cm]) r c ZS k) := by unfold Hid;rw [← hW];exact MM.out.wk PN.out _ _ _
  have PF : Hid (Cel V12 D1.heap.size 24 [.int .i64 (r : Int),.int .i64 (c : Int),.slice am (r * c) cm]) := by unfold Hid;rw [← hW];exact PN.out.put3 _ _ _
  clear MM PN;rw [hW];clear hW;refine hK.out _ _ (fun _ => KB.out _ GB.out) ?_;clear hK
  try simp only [Act.put]
  refine zAA (i := 14) (o := ⟨some 4,.assign (.tmp 16),28, "tape.go:144",#[⟨11,.data⟩,⟨13,.chain⟩,⟨0,.phase⟩,⟨1,.phase⟩,⟨2,.phase⟩,⟨3,.phase⟩,⟨4,.phase⟩,⟨5,.phase⟩,⟨6,.phase⟩,⟨7,.phase⟩,⟨8,.phase⟩,⟨9,.phase⟩,⟨10,.phase⟩,⟨11,.phase⟩,⟨12,.phase⟩,⟨13,.phase⟩],none⟩) (by kernel_rfl) rfl (fun K hK => ?_);go_simp;refine hK.out _ _ (fun h => absurd h (by decide)) ?_;clear hK
  try simp only [Act.put]
  refine zDA (by kernel_rfl) ?_ _;have x0 := PF.out.at (i := 0) rfl;have x1 := PF.out.at (i := 1) rfl;have x2 := PF.out.at (i := 2) rfl;have PR2 := hid (PR.out.step GB.out);have y0 := PR2.out.at (i := 0) rfl;have y1 := PR2.out.at (i := 1) rfl;have y2 := PR2.out.at (i := 2) rfl;have g0 := PR2.out.fz 0;have g1 := PR2.out.fz 1;have g2 := PR2.out.fz 2;have FIN : Hid (zvD w r c ZS k (.returned (.agg #[.int .i64 (r : Int),.int .i64 (c : Int),.slice am (r * c) cm])) (put3 V12 (w.heap.size + 1) (.int .i64 (r : Int)) (.int .i64 (c : Int)) (.slice am (r * c) cm))) := ⟨_,rfl,MF.out.wk PR2.out _ _ _,zTA (below_step G.out GB.out) (by omega) _ _ _⟩
  have PG := hid (PR2.out.put3 (.int .i64 (r : Int)) (.int .i64 (c : Int)) (.slice am (r * c) cm));obtain ⟨L,hL⟩ : ∃ L,r * c = L := ⟨_,rfl⟩
  rw [hL] at FIN PG x2 ⊢;clear PR PR2 PF MF GB KB HC ZF G k0 k1 hL;go_wp2;exact bodyPost_ret (zuE Tryz.results41 PG.out _ (by rfl)) rfl FIN.out
end Go.Proofs.YtnfpjgmmhhdgbaaGreat
