import Derived.Test.YtnfpjgmmhhdgbaaGreatQSh11
import Derived.Test.YtnfpjgmmhhdgbaaGreatQFil9ToRowsOf9
import Derived.Test.YtnfpjgmmhhdgbaaGreatQLm6ToTy9
set_option maxRecDepth 100000
set_option maxHeartbeats 6400000
set_option linter.unusedVariables false
set_option linter.unusedSimpArgs false
namespace Go.Proofs.YtnfpjgmmhhdgbaaGreat
open Go.RowKit
def Dn (B : Nat) (w : World) (lv : Value) (c : Nat) (m : List (List Int)) (k : Nat) (e : Ending) (w' : World) : Prop := ∃ gs,e = .returned (.tuple #[]) ∧ Sht B w' lv c gs m k ∧ Below B w w' ∧ Kw w w'
theorem Sht.size {B c k : Nat} {w : World} {lv : Value} {gs : List Nat} {m : List (List Int)} (h : Sht B w lv c gs m k) (hm : 0 < m.length) : B ≤ w.heap.size := by
 obtain ⟨a,cap,_,_,hL⟩ := h.form;obtain ⟨L,_,h1,h2⟩ := hL hm;omega
theorem Sht.lineZ {B c k L n cap i g : Nat} {w : World} {gs : List Nat} {m : List (List Int)} (h : Sht B w (.slice (some ⟨L,0,none⟩) n cap) c gs m k) (hn : m.length = n) (hg : gs[i]? = some g) : w.cell? ⟨L,i,none⟩ = some (.slice (some ⟨g,0,none⟩) c c) ∧ w.frozen? ⟨L,i,none⟩ = false := by
 subst hn;exact h.line hg
theorem Sht.lineT {B c k L n cap i j a b : Nat} {w : World} {gs : List Nat} {m : List (List Int)} (h : Sht B w (.slice (some ⟨L,0,none⟩) n cap) c gs m k) (hn : m.length = n) (ha : gs[i]? = some a) (hb : gs[j]? = some b) :
  (w.setCell ⟨L,i,none⟩ (.slice (some ⟨b,0,none⟩) c c)).cell? ⟨L,j,none⟩ = some (.slice (some ⟨b,0,none⟩) c c) ∧ (w.setCell ⟨L,i,none⟩ (.slice (some ⟨b,0,none⟩) c c)).frozen? ⟨L,j,none⟩ = false := by
 subst hn;obtain ⟨h1,h2,h3,h4,h5,h6⟩ := h;rw [← h3] at h1;obtain ⟨o1,g1⟩ := h1.stored i (.slice (some ⟨b,0,none⟩) c c);have hi : i < gs.length := (List.getElem?_eq_some_iff.1 ha).1;have hj : j < gs.length := (List.getElem?_eq_some_iff.1 hb).1;refine ⟨?_,o1.frozenAt j⟩;rw [o1.cellAt j (by omega)]
 by_cases q : i = j
 ·subst q;simp [hi]
 ·rw [List.getElem?_set_ne q];simp [hb,rowv]
theorem do_swap {B c k i j : Nat} {w : World} {lv : Value} {gs : List Nat} {m : List (List Int)} (h : Sht B w lv c gs m k) (hi : i < m.length) (hj : j < m.length) :
  Calls Tryz.prog 174 #[.agg #[.int .i64 (i : Int),.int .i64 (j : Int)],lv] w (Dn B w lv c ((St.swap i j).run m) k) := by
 have hB := h.size (by omega);obtain ⟨W0,hW⟩ : ∃ W0,w.alloc (.cells #[.int .i64 (i : Int),.int .i64 (j : Int)] 153) = W0 := ⟨_,rfl⟩
 obtain ⟨b0,sz0⟩ := alo1 w (.cells #[.int .i64 (i : Int),.int .i64 (j : Int)] 153);rw [hW] at b0 sz0;have P1 : Hid (Cel W0 w.heap.size 153 [.int .i64 (i : Int),.int .i64 (j : Int)]) := by unfold Hid;rw [← hW];exact Cel.new w _ _
 obtain ⟨a,cap,rfl,hcap,hL⟩ := h.form;obtain ⟨L,rfl,hBL,hLs⟩ := hL (by omega);have S0 := hid (h.now b0);obtain ⟨ga,hga,-⟩ := h.blk hi;obtain ⟨gb,hgb,-⟩ := h.blk hj;have la := hid (S0.out.lineZ rfl hga);have lb := hid (S0.out.lineZ rfl hgb);have KK := hid (Kw.of b0);have BB := hid (b0.mono hB);have HB0 : Hid (B ≤ W0.heap.size) := by unfold Hid;omega
 have HNL : Hid (w.heap.size ≠ L) := by unfold Hid;omega
 have GA := hid hga;have GB' := hid hgb;have ii : (i : Int) < (m.length : Int) := by omega
 have jj : (j : Int) < (m.length : Int) := by omega
 have y0 := P1.out.at (i := 0) rfl;have y1 := P1.out.at (i := 1) rfl;obtain ⟨n,hn⟩ : ∃ n,m.length = n := ⟨_,rfl⟩
 rw [hn] at S0 ii jj hcap ⊢;have HN := hid hn;have EW := hid hW;clear h b0 sz0 hW hL hga hgb hi hj hn hBL hLs hB;go_enter Tryz.func174,Tryz.ntmps174;go_wp2_with fail;rw [EW.out];clear EW;have KB : Hid (∀ w',Below W0.heap.size W0 w' → w'.cell? ⟨w.heap.size,0,none⟩ = some (.int .i64 (i : Int)) ∧ w'.cell? ⟨w.heap.size,1,none⟩ = some (.int .i64 (j : Int))) := fun w' h => ⟨cnow h y0,cnow h y1⟩
 refine zEA (fun w' => w'.cell? ⟨w.heap.size,0,none⟩ = some (.int .i64 (i : Int)) ∧ w'.cell? ⟨w.heap.size,1,none⟩ = some (.int .i64 (j : Int))) 18 (by kernel_rfl) ?_;obtain ⟨D1,hD⟩ : ∃ D1,W0.drew = D1 := ⟨_,rfl⟩
 have GB : Hid (Below W0.heap.size W0 D1) := by unfold Hid;rw [← hD];exact (Below.refl _ _).drew
 rw [hD];clear hD;refine zBA (i := 0) (oi := ⟨some 4,.move (.tmp 1),60, "kinds.go:38",#[],none⟩) (v := (.slice (some ⟨L,0,none⟩) n cap)) rfl (by kernel_rfl) (fun _ _ _ h => h) (Or.inl ⟨by rfl,?_⟩) (KB.out _ GB.out) ?_
 ·intro w hSw;(try dsimp only at hSw);go_simp
 simp only [Act.put,sIb,sC0,sC1];refine zBA (i := 1) (oi := ⟨some 5,.fieldAddr 153 (.tmp 2) 0,0, "kinds.go:38",#[],none⟩) (v := (.pointer (some ⟨w.heap.size,0,none⟩))) rfl (by kernel_rfl) (fun _ _ _ h => h) (Or.inl ⟨by rfl,?_⟩) (KB.out _ GB.out) ?_
 ·intro w hSw;(try dsimp only at hSw);go_simp
 simp only [Act.put,sIb,sC0,sC1];refine zBA (i := 2) (oi := ⟨some 6,.load 3 (.tmp 5),3, "kinds.go:38",#[⟨1,.data⟩],none⟩) (v := (.int .i64 (i : Int))) rfl (by kernel_rfl) (fun _ _ _ h => h) (Or.inl ⟨by rfl,?_⟩) (KB.out _ GB.out) ?_
 ·intro w hSw;(try dsimp only at hSw);go_simp
 simp only [Act.put,sIb,sC0,sC1];refine zBA (i := 3) (oi := ⟨some 7,.move (.tmp 1),60, "kinds.go:38",#[⟨17,.gcOnly .lateStores⟩],none⟩) (v := (.slice (some ⟨L,0,none⟩) n cap)) rfl (by kernel_rfl) (fun _ _ _ h => h) (Or.inl ⟨by rfl,?_⟩) (KB.out _ GB.out) ?_
 ·intro w hSw;(try dsimp only at hSw);go_simp
 simp only [Act.put,sIb,sC0,sC1];refine zBA (i := 4) (oi := ⟨some 8,.fieldAddr 153 (.tmp 2) 1,0, "kinds.go:38",#[⟨17,.gcOnly .lateStores⟩],none⟩) (v := (.pointer (some ⟨w.heap.size,1,none⟩))) rfl (by kernel_rfl) (fun _ _ _ h => h) (Or.inl ⟨by rfl,?_⟩) (KB.out _ GB.out) ?_
 ·intro w hSw;(try dsimp only at hSw);go_simp
 simp only [Act.put,sIb,sC0,sC1];refine zBA (i := 5) (oi := ⟨some 9,.load 3 (.tmp 8),3, "kinds.go:38",#[⟨4,.data⟩,⟨17,.gcOnly .lateStores⟩],none⟩) (v := (.int .i64 (j : Int))) rfl (by kernel_rfl) (fun _ _ _ h => h) (Or.inl ⟨by rfl,?_⟩) (KB.out _ GB.out) ?_
 ·intro w hSw;(try dsimp only at hSw);go_simp
 simp only [Act.put,sIb,sC0,sC1];refine zBA (i := 6) (oi := ⟨some 10,.move (.tmp 1),60, "kinds.go:38",#[],none⟩) (v := (.slice (some ⟨L,0,none⟩) n cap)) rfl (by kernel_rfl) (fun _ _ _ h => h) (Or.inl ⟨by rfl,?_⟩) (KB.out _ GB.out) ?_
 ·intro w hSw;(try dsimp only at hSw);go_simp
 simp only [Act.put,sIb,sC0,sC1];refine zBA (i := 7) (oi := ⟨some 11,.fieldAddr 153 (.tmp 2) 1,0, "kinds.go:38",#[],none⟩) (v := (.pointer (some ⟨w.heap.size,1,none⟩))) rfl (by kernel_rfl) (fun _ _ _ h => h) (Or.inl ⟨by rfl,?_⟩) (KB.out _ GB.out) ?_
 ·intro w hSw;(try dsimp only at hSw);go_simp
 simp only [Act.put,sIb,sC0,sC1];refine zBA (i := 8) (oi := ⟨some 12,.load 3 (.tmp 11),3, "kinds.go:38",#[⟨7,.data⟩],none⟩) (v := (.int .i64 (j : Int))) rfl (by kernel_rfl) (fun _ _ _ h => h) (Or.inl ⟨by rfl,?_⟩) (KB.out _ GB.out) ?_
 ·intro w hSw;(try dsimp only at hSw);go_simp
 simp only [Act.put,sIb,sC0,sC1];refine zBA (i := 9) (oi := ⟨some 13,.indexAddr 60 (.tmp 10) (.tmp 12),0, "kinds.go:38",#[⟨6,.data⟩,⟨8,.data⟩],none⟩) (v := (.pointer (some ⟨L,j,none⟩))) rfl (by kernel_rfl) (fun _ _ _ h => h) (Or.inl ⟨by rfl,?_⟩) (KB.out _ GB.out) ?_
 ·intro w hSw;(try dsimp only at hSw);go_simp
 simp only [Act.put,sIb,sC0,sC1];refine zBA (i := 11) (oi := ⟨some 15,.move (.tmp 1),60, "kinds.go:38",#[],none⟩) (v := (.slice (some ⟨L,0,none⟩) n cap)) rfl (by kernel_rfl) (fun _ _ _ h => h) (Or.inl ⟨by rfl,?_⟩) (KB.out _ GB.out) ?_
 ·intro w hSw;(try dsimp only at hSw);go_simp
 simp only [Act.put,sIb,sC0,sC1];refine zBA (i := 12) (oi := ⟨some 16,.fieldAddr 153 (.tmp 2) 0,0, "kinds.go:38",#[],none⟩) (v := (.pointer (some ⟨w.heap.size,0,none⟩))) rfl (by kernel_rfl) (fun _ _ _ h => h) (Or.inl ⟨by rfl,?_⟩) (KB.out _ GB.out) ?_
 ·intro w hSw;(try dsimp only at hSw);go_simp
 simp only [Act.put,sIb,sC0,sC1];refine zBA (i := 13) (oi := ⟨some 17,.load 3 (.tmp 16),3, "kinds.go:38",#[⟨12,.data⟩],none⟩) (v := (.int .i64 (i : Int))) rfl (by kernel_rfl) (fun _ _ _ h => h) (Or.inl ⟨by rfl,?_⟩) (KB.out _ GB.out) ?_
 ·intro w hSw;(try dsimp only at hSw);go_simp
 simp only [Act.put,sIb,sC0,sC1];refine zBA (i := 14) (oi := ⟨some 18,.indexAddr 60 (.tmp 15) (.tmp 17),0, "kinds.go:38",#[⟨11,.data⟩,⟨13,.data⟩],none⟩) (v := (.pointer (some ⟨L,i,none⟩))) rfl (by kernel_rfl) (fun _ _ _ h => h) (Or.inl ⟨by rfl,?_⟩) (KB.out _ GB.out) ?_
 ·intro w hSw;(try dsimp only at hSw);go_simp
 simp only [Act.put,sIb,sC0,sC1];refine zOA (i := 10) (j := 15) (oi := ⟨some 14,.load 22 (.tmp 13),22, "kinds.go:38",#[⟨9,.data⟩],none⟩) (oj := ⟨some 19,.load 22 (.tmp 18),22, "kinds.go:38",#[⟨14,.data⟩],none⟩) (by kernel_rfl) rfl rfl (fun K hK => ?_) (fun K hK => ?_)
 ·skip
  have q0 := cnow GB.out lb.out.1;go_simp;clear q0;refine hK.out _ _ (fun _ => KB.out _ GB.out) ?_;clear hK
  try simp only [Act.put]
  refine zAA (i := 15) (o := ⟨some 19,.load 22 (.tmp 18),22, "kinds.go:38",#[⟨14,.data⟩],none⟩) (by kernel_rfl) rfl (fun K hK => ?_);have q0 := cnow GB.out la.out.1;go_simp;clear q0;refine hK.out _ _ (fun _ => KB.out _ GB.out) ?_;clear hK
  try simp only [Act.put]
  refine zBA (i := 16) (oi := ⟨some 20,.indexAddr 60 (.tmp 4) (.tmp 6),0, "kinds.go:38",#[⟨0,.data⟩,⟨2,.data⟩,⟨0,.phase⟩,⟨1,.phase⟩,⟨2,.phase⟩,⟨3,.textOnly .lateStores⟩,⟨4,.textOnly .lateStores⟩,⟨5,.textOnly .lateStores⟩,⟨6,.phase⟩,⟨7,.phase⟩,⟨8,.phase⟩,⟨9,.phase⟩,⟨10,.phase⟩,⟨11,.textOnly .lateStores⟩,⟨12,.textOnly .lateStores⟩,⟨13,.textOnly .lateStores⟩,⟨14,.textOnly .lateStoresUnsure⟩,⟨15,.phase⟩],none⟩) (v := (.pointer (some ⟨L,i,none⟩))) rfl (by kernel_rfl) (fun _ _ _ h => h) (Or.inl ⟨by rfl,?_⟩) (KB.out _ GB.out) ?_
  ·intro w hSw;(try dsimp only at hSw);go_simp
  simp only [Act.put,sIb,sC0,sC1];refine zAA (i := 17) (o := ⟨none,.store 22 (.tmp 20) (.tmp 14),0, "kinds.go:38",#[⟨16,.data⟩,⟨10,.data⟩,⟨0,.phase⟩,⟨1,.phase⟩,⟨2,.phase⟩,⟨3,.textOnly .lateStores⟩,⟨4,.textOnly .lateStores⟩,⟨5,.textOnly .lateStores⟩,⟨6,.phase⟩,⟨7,.phase⟩,⟨8,.phase⟩,⟨9,.phase⟩,⟨10,.phase⟩,⟨11,.textOnly .lateStores⟩,⟨12,.textOnly .lateStores⟩,⟨13,.textOnly .lateStores⟩,⟨14,.textOnly .lateStoresUnsure⟩,⟨15,.phase⟩],none⟩) (by kernel_rfl) rfl (fun K hK => ?_);have c0 := cnow GB.out la.out.1;have f0 := ((S0.out.now GB.out).lineZ HN.out GA.out).2;go_simp;clear c0 f0;obtain ⟨V2,hW⟩ : ∃ V2,(D1.setCell ⟨L,i,none⟩ (.slice (some ⟨gb,0,none⟩) c c)) = V2 := ⟨_,rfl⟩
  have e0 : V2.cell? ⟨w.heap.size,0,none⟩ = some (.int .i64 (i : Int)) := by rw [← hW];exact (World.cell?_setCell_other _ _ _ _ (fun q => HNL.out (by simpa using (congrArg Addr.block q).symm))).trans (cnow GB.out y0)
  have e1 : V2.cell? ⟨w.heap.size,1,none⟩ = some (.int .i64 (j : Int)) := by rw [← hW];exact (World.cell?_setCell_other _ _ _ _ (fun q => HNL.out (by simpa using (congrArg Addr.block q).symm))).trans (cnow GB.out y1)
  have E17 := hid hW;rw [hW];clear hW;refine hK.out _ _ (fun _ => ⟨e0,e1⟩) ?_;clear hK
  try simp only [Act.put]
  refine zAA (i := 18) (o := ⟨some 21,.indexAddr 60 (.tmp 7) (.tmp 9),0, "kinds.go:38",#[⟨3,.data⟩,⟨5,.data⟩,⟨0,.phase⟩,⟨1,.phase⟩,⟨2,.phase⟩,⟨3,.phase⟩,⟨4,.phase⟩,⟨5,.phase⟩,⟨6,.phase⟩,⟨7,.phase⟩,⟨8,.phase⟩,⟨9,.phase⟩,⟨10,.phase⟩,⟨11,.phase⟩,⟨12,.phase⟩,⟨13,.phase⟩,⟨14,.phase⟩,⟨15,.phase⟩,⟨16,.phase⟩,⟨17,.phase⟩],none⟩) (by kernel_rfl) rfl (fun K hK => ?_);go_simp;refine hK.out _ _ (fun h => absurd h (by decide)) ?_;clear hK
  try simp only [Act.put]
  refine zAA (i := 19) (o := ⟨none,.store 22 (.tmp 21) (.tmp 19),0, "kinds.go:38",#[⟨18,.data⟩,⟨15,.data⟩,⟨17,.chain⟩,⟨0,.phase⟩,⟨1,.phase⟩,⟨2,.phase⟩,⟨3,.phase⟩,⟨4,.phase⟩,⟨5,.phase⟩,⟨6,.phase⟩,⟨7,.phase⟩,⟨8,.phase⟩,⟨9,.phase⟩,⟨10,.phase⟩,⟨11,.phase⟩,⟨12,.phase⟩,⟨13,.phase⟩,⟨14,.phase⟩,⟨15,.phase⟩,⟨16,.phase⟩,⟨17,.phase⟩],none⟩) (by kernel_rfl) rfl (fun K hK => ?_);have f0 := (S0.out.now GB.out).lineT HN.out GA.out GB'.out;rw [E17.out] at f0;obtain ⟨f1,f2⟩ := f0;go_simp;clear f1 f2;obtain ⟨V3,hW⟩ : ∃ V3,(V2.setCell ⟨L,j,none⟩ (.slice (some ⟨ga,0,none⟩) c c)) = V3 := ⟨_,rfl⟩
  have E19 := hid hW;rw [hW];clear hW;refine hK.out _ _ (fun h => absurd h (by decide)) ?_;clear hK
  try simp only [Act.put]
  refine zDA (by kernel_rfl) ?_ _;have FIN : Hid (Dn B w (.slice (some ⟨L,0,none⟩) n cap) c ((St.swap i j).run m) k (.returned (.tuple #[])) V3) := by
   unfold Hid;rw [← E19.out,← E17.out];have h := S0.out.now GB.out;rw [← HN.out] at h ⊢;obtain ⟨s1,s2,s3⟩ := h.swap GA.out GB'.out;refine ⟨_,rfl,s1,(BB.out.trans (GB.out.mono HB0.out)).trans s2,(KK.out.trans (Kw.of GB.out)).trans s3⟩
  clear la lb S0 KK BB GA GB' GB P1 E17 E19 HN HNL KB e0 e1 y0 y1;go_wp2;go_end0;exact FIN.out
 ·skip
  have q0 := cnow GB.out la.out.1;go_simp;clear q0;refine hK.out _ _ (fun _ => KB.out _ GB.out) ?_;clear hK
  try simp only [Act.put]
  refine zAA (i := 10) (o := ⟨some 14,.load 22 (.tmp 13),22, "kinds.go:38",#[⟨9,.data⟩],none⟩) (by kernel_rfl) rfl (fun K hK => ?_);have q0 := cnow GB.out lb.out.1;go_simp;clear q0;refine hK.out _ _ (fun _ => KB.out _ GB.out) ?_;clear hK
  try simp only [Act.put]
  refine zBA (i := 16) (oi := ⟨some 20,.indexAddr 60 (.tmp 4) (.tmp 6),0, "kinds.go:38",#[⟨0,.data⟩,⟨2,.data⟩,⟨0,.phase⟩,⟨1,.phase⟩,⟨2,.phase⟩,⟨3,.textOnly .lateStores⟩,⟨4,.textOnly .lateStores⟩,⟨5,.textOnly .lateStores⟩,⟨6,.phase⟩,⟨7,.phase⟩,⟨8,.phase⟩,⟨9,.phase⟩,⟨10,.phase⟩,⟨11,.textOnly .lateStores⟩,⟨12,.textOnly .lateStores⟩,⟨13,.textOnly .lateStores⟩,⟨14,.textOnly .lateStoresUnsure⟩,⟨15,.phase⟩],none⟩) (v := (.pointer (some ⟨L,i,none⟩))) rfl (by kernel_rfl) (fun _ _ _ h => h) (Or.inl ⟨by rfl,?_⟩) (KB.out _ GB.out) ?_
  ·intro w hSw;(try dsimp only at hSw);go_simp
  simp only [Act.put,sIb,sC0,sC1];refine zAA (i := 17) (o := ⟨none,.store 22 (.tmp 20) (.tmp 14),0, "kinds.go:38",#[⟨16,.data⟩,⟨10,.data⟩,⟨0,.phase⟩,⟨1,.phase⟩,⟨2,.phase⟩,⟨3,.textOnly .lateStores⟩,⟨4,.textOnly .lateStores⟩,⟨5,.textOnly .lateStores⟩,⟨6,.phase⟩,⟨7,.phase⟩,⟨8,.phase⟩,⟨9,.phase⟩,⟨10,.phase⟩,⟨11,.textOnly .lateStores⟩,⟨12,.textOnly .lateStores⟩,⟨13,.textOnly .lateStores⟩,⟨14,.textOnly .lateStoresUnsure⟩,⟨15,.phase⟩],none⟩) (by kernel_rfl) rfl (fun K hK => ?_);have c0 := cnow GB.out la.out.1;have f0 := ((S0.out.now GB.out).lineZ HN.out GA.out).2;go_simp;clear c0 f0;obtain ⟨V4,hW⟩ : ∃ V4,(D1.setCell ⟨L,i,none⟩ (.slice (some ⟨gb,0,none⟩) c c)) = V4 := ⟨_,rfl⟩
  have e0 : V4.cell? ⟨w.heap.size,0,none⟩ = some (.int .i64 (i : Int)) := by rw [← hW];exact (World.cell?_setCell_other _ _ _ _ (fun q => HNL.out (by simpa using (congrArg Addr.block q).symm))).trans (cnow GB.out y0)
  have e1 : V4.cell? ⟨w.heap.size,1,none⟩ = some (.int .i64 (j : Int)) := by rw [← hW];exact (World.cell?_setCell_other _ _ _ _ (fun q => HNL.out (by simpa using (congrArg Addr.block q).symm))).trans (cnow GB.out y1)
  have E17 := hid hW;rw [hW];clear hW;refine hK.out _ _ (fun _ => ⟨e0,e1⟩) ?_;clear hK
  try simp only [Act.put]
  refine zAA (i := 18) (o := ⟨some 21,.indexAddr 60 (.tmp 7) (.tmp 9),0, "kinds.go:38",#[⟨3,.data⟩,⟨5,.data⟩,⟨0,.phase⟩,⟨1,.phase⟩,⟨2,.phase⟩,⟨3,.phase⟩,⟨4,.phase⟩,⟨5,.phase⟩,⟨6,.phase⟩,⟨7,.phase⟩,⟨8,.phase⟩,⟨9,.phase⟩,⟨10,.phase⟩,⟨11,.phase⟩,⟨12,.phase⟩,⟨13,.phase⟩,⟨14,.phase⟩,⟨15,.phase⟩,⟨16,.phase⟩,⟨17,.phase⟩],none⟩) (by kernel_rfl) rfl (fun K hK => ?_);go_simp;refine hK.out _ _ (fun h => absurd h (by decide)) ?_;clear hK
  try simp only [Act.put]
  refine zAA (i := 19) (o := ⟨none,.store 22 (.tmp 21) (.tmp 19),0, "kinds.go:38",#[⟨18,.data⟩,⟨15,.data⟩,⟨17,.chain⟩,⟨0,.phase⟩,⟨1,.phase⟩,⟨2,.phase⟩,⟨3,.phase⟩,⟨4,.phase⟩,⟨5,.phase⟩,⟨6,.phase⟩,⟨7,.phase⟩,⟨8,.phase⟩,⟨9,.phase⟩,⟨10,.phase⟩,⟨11,.phase⟩,⟨12,.phase⟩,⟨13,.phase⟩,⟨14,.phase⟩,⟨15,.phase⟩,⟨16,.phase⟩,⟨17,.phase⟩],none⟩) (by kernel_rfl) rfl (fun K hK => ?_);have f0 := (S0.out.now GB.out).lineT HN.out GA.out GB'.out;rw [E17.out] at f0;obtain ⟨f1,f2⟩ := f0;go_simp;clear f1 f2;obtain ⟨V5,hW⟩ : ∃ V5,(V4.setCell ⟨L,j,none⟩ (.slice (some ⟨ga,0,none⟩) c c)) = V5 := ⟨_,rfl⟩
  have E19 := hid hW;rw [hW];clear hW;refine hK.out _ _ (fun h => absurd h (by decide)) ?_;clear hK
  try simp only [Act.put]
  refine zDA (by kernel_rfl) ?_ _;have FIN : Hid (Dn B w (.slice (some ⟨L,0,none⟩) n cap) c ((St.swap i j).run m) k (.returned (.tuple #[])) V5) := by
   unfold Hid;rw [← E19.out,← E17.out];have h := S0.out.now GB.out;rw [← HN.out] at h ⊢;obtain ⟨s1,s2,s3⟩ := h.swap GA.out GB'.out;refine ⟨_,rfl,s1,(BB.out.trans (GB.out.mono HB0.out)).trans s2,(KK.out.trans (Kw.of GB.out)).trans s3⟩
  clear la lb S0 KK BB GA GB' GB P1 E17 E19 HN HNL KB e0 e1 y0 y1;go_wp2;go_end0;exact FIN.out
end Go.Proofs.YtnfpjgmmhhdgbaaGreat
