/-
 QR5SmallToR5Sum: R5Small, R5Sum, joined.
-/
import Derived.Test.YtkdobgbicnemcaaGreatDoorQRWordsToR5Ones
import Derived.Test.YtkdobgbicnemcaaGreatDoorQZSmall
import Derived.Test.YtkdobgbicnemcaaGreatDoorQRLowToPowers
import Derived.Test.YtkdobgbicnemcaaGreatDoorQRPureToR5Add
import Derived.Test.YtkdobgbicnemcaaGreatDoorQFil9ToDot9

set_option maxRecDepth 100000
set_option maxHeartbeats 6400000
set_option linter.unusedVariables false
set_option linter.unusedSimpArgs false
namespace Go.Proofs.YtkdobgbicnemcaaGreatDoor
open Go.RowKit
def smv (A : Int) : Int := if -9223372036854775808 ≤ A ∧ A ≤ 9223372036854775807 then A else 0
def sme (A : Int) : Int := if -9223372036854775808 ≤ A ∧ A ≤ 9223372036854775807 then 0 else 5
theorem rsmall5_z {w : World} {va : Value} {A : Int} {k : Nat} (ha : Zi w va A k) (hk : k ≤ 1099511627776) :
  Calls Tryz.prog 24 #[va] w (zlB w (smv A) (sme A)) := by
 have za0 := ha;obtain ⟨na,xa,ada,ca,rfl,-,-,-⟩ := ha;obtain ⟨W0,hW⟩ : ∃ W0,w.alloc (duo (.bool na) (.slice ada xa.length ca)) = W0 := ⟨_,rfl⟩
 obtain ⟨b0,sz0⟩ := zEB w (duo (.bool na) (.slice ada xa.length ca));rw [hW] at b0 sz0;have Pa : Hid (Duo W0 (w.heap.size) (.bool na) (.slice ada xa.length ca)) := by unfold Hid;rw [← hW];exact zCA (by simp)
 have Za := hid (za0.now b0);clear za0;have G := hid b0;clear b0;have EW := hid hW;clear hW;go_enter Tryz.func24,Tryz.ntmps24;have ca0 := Pa.out.c0;have ca1 := Pa.out.c1;rw [← EW.out] at ca0 ca1;go_wp2_with fail;rw [EW.out];clear EW;clear ca0 ca1;refine (zmF Za.out (by omega)).mono ?_;rintro e w1 ⟨r,rfl,m,b⟩;obtain ⟨nx,zs,ax,cx,rfl,mx,hc,hn0,hv,hl⟩ := m;replace Za := hid (Za.out.now b);replace Pa := hid (Pa.out.step b);replace G := hid (below_step G.out b);have lz1 := (show Below _ _ _ from b).size;clear b;obtain ⟨W1,hW1⟩ : ∃ W1,w1.alloc (duo (.bool nx) (.slice ax zs.length cx)) = W1 := ⟨_,rfl⟩
 obtain ⟨k1,sz1⟩ := zEB w1 (duo (.bool nx) (.slice ax zs.length cx));rw [hW1] at k1 sz1;have px : Duo W1 w1.heap.size (.bool nx) (.slice ax zs.length cx) := by rw [← hW1];exact zCA rfl
 have c0 := px.c0;have c1 := px.c1;rw [← hW1] at c0 c1;have G1 := hid (below_step G.out k1);have MS := hid (mx.sl.now k1);have EW := hid hW1;clear Za Pa G hW1 k1 px mx
 match zs,hc,hn0,hv,hl,MS,c0,c1,sz1,EW with
 | [],hc,hn0,hv,hl,MS,c0,c1,sz1,EW =>
  obtain rfl := hn0 rfl;have hA : A = 0 := by rw [← hv];rfl
  have GI := hid (show zlB w (smv A) (sme A) (.returned (.tuple #[.int .i64 0,.int .i64 0])) W1 by subst hA;exact ⟨rfl,G1.out⟩);clear hn0 hv hl hc hA MS;simp only [List.length_nil] at c0 c1 EW ⊢;go_wp2
  try rw [EW.out]
  go_ret2;exact ⟨GI.out.1,GI.out.2⟩
 | x :: y :: r,hc,hn0,hv,hl,MS,c0,c1,sz1,EW =>
  have hbig := zbC hc.1 hv;have hlt : ¬ val (x :: y :: r) < pw 1 := fun h => by have := zSA hc h;simp at this
  rw [hbig] at hlt;have hlt2 : ¬ (A.natAbs : Int) < 18446744073709551616 := hlt;have GI := hid (show zlB w (smv A) (sme A) (.returned (.tuple #[.int .i64 0,.int .i64 5])) W1 by
   have e : ¬ (-9223372036854775808 ≤ A ∧ A ≤ 9223372036854775807) := by omega
   unfold smv sme;rw [if_neg e,if_neg e];exact ⟨rfl,G1.out⟩)
  obtain ⟨L,hL⟩ : ∃ L,(x :: y :: r).length = L := ⟨_,rfl⟩
  have hL2 : 2 ≤ L := by rw [← hL];simp
  rw [hL] at c0 c1 EW ⊢;clear hn0 hv hl hc MS hbig hlt hlt2 hL;have q0 : ((L : Int) == 0) = false := by rw [beq_eq_false_iff_ne];omega
  have q1 : (1 : Int) < (L : Int) := by omega
  go_wp2
  try rw [EW.out]
  go_ret2;exact ⟨GI.out.1,GI.out.2⟩
 | [x],hc,hn0,hv,hl,MS,c0,c1,sz1,EW =>
  obtain ⟨bb,oo,rfl,cx0⟩ := sl_one MS.out;have hx := hc.1 x (List.mem_singleton.2 rfl);have hx1 : x ≠ 0 := fun e => by subst e;have := zgB hc (by simp [val]);cases this
  have hxl : 1 ≤ x ∧ x ≤ 18446744073709551615 := by unfold IsW wB at hx;omega
  have hvx : val [x] = x := by simp [val]
  rw [← EW.out] at cx0;clear hn0 hl hc MS hx hx1;simp only [List.length_singleton] at c0 c1 cx0 EW ⊢;cases nx
  ·have hA : A = x := by rw [← hv,zdB,hvx]
   subst hA;clear hv hvx
   by_cases hbig : 9223372036854775808 ≤ A
   ·have GI := hid (show zlB w (smv A) (sme A) (.returned (.tuple #[.int .i64 0,.int .i64 5])) W1 by
     have e : ¬ (-9223372036854775808 ≤ A ∧ A ≤ 9223372036854775807) := by omega
     unfold smv sme;rw [if_neg e,if_neg e];exact ⟨rfl,G1.out⟩)
    go_wp2
    try rw [EW.out]
    go_ret2;exact ⟨GI.out.1,GI.out.2⟩
   ·have GI := hid (show zlB w (smv A) (sme A) (.returned (.tuple #[.int .i64 A,.int .i64 0])) W1 by
     have e : (-9223372036854775808 ≤ A ∧ A ≤ 9223372036854775807) := by omega
     unfold smv sme;rw [if_pos e,if_pos e];exact ⟨rfl,G1.out⟩)
    have hwr : wrap64 A = A := by unfold wrap64;omega
    go_wp2
    try rw [EW.out]
    go_ret2;exact ⟨GI.out.1,GI.out.2⟩
  ·have hA : A = -x := by rw [← hv,zaC,hvx]
   clear hv hvx
   by_cases hbig : 9223372036854775808 < x
   ·have GI := hid (show zlB w (smv A) (sme A) (.returned (.tuple #[.int .i64 0,.int .i64 5])) W1 by
     have e : ¬ (-9223372036854775808 ≤ A ∧ A ≤ 9223372036854775807) := by omega
     unfold smv sme;rw [if_neg e,if_neg e];exact ⟨rfl,G1.out⟩)
    clear hA;go_wp2
    try rw [EW.out]
    go_ret2;exact ⟨GI.out.1,GI.out.2⟩
   ·obtain ⟨y,hy⟩ : ∃ y,x - 1 = y := ⟨_,rfl⟩
    have GI := hid (show zlB w (smv A) (sme A) (.returned (.tuple #[.int .i64 (-y - 1),.int .i64 0])) W1 by
     have e : (-9223372036854775808 ≤ A ∧ A ≤ 9223372036854775807) := by omega
     unfold smv sme;rw [if_pos e,if_pos e,show -y - 1 = A by omega];exact ⟨rfl,G1.out⟩)
    have hf0 : IntKind.u64.wrap (x - 1) = y := by rw [IntKind.wrap_u64];omega
    have hf1 : wrap64 y = y := by unfold wrap64;omega
    have hf2 : wrap64 (-y) = -y := by unfold wrap64;omega
    have hf3 : wrap64 (-y - 1) = -y - 1 := by unfold wrap64;omega
    clear hA hy;go_wp2
    try rw [EW.out]
    go_ret2;exact ⟨GI.out.1,GI.out.2⟩
theorem small5_z {w : World} {va : Value} {A : Int} {k : Nat} (ha : Zi w va A k) : Calls Tryz.prog 40 #[va] w (zlB w (smv A) (sme A)) := by
 unfold smv sme
 by_cases h : -9223372036854775808 ≤ A ∧ A ≤ 9223372036854775807
 ·rw [if_pos h,if_pos h];exact small_z ha h.1 h.2
 ·rw [if_neg h,if_neg h];exact small_large ha (by omega)
def sgm (F : Nat → Int) (i : Nat) : Int := zsum ((List.range i).map F)
theorem zrG (F : Nat → Int) (i : Nat) : sgm F (i + 1) = sgm F i + F i := by
 unfold sgm;rw [List.range_succ,List.map_append,zKE];simp [zsum]
theorem sgm_all (xs : List Int) : sgm (fun j => xs.getD j 0) xs.length = zsum xs := by
 unfold sgm
 congr 1
 apply List.ext_getElem?
 intro j
 by_cases h : j < xs.length
 ·simp [h]
 ·simp [h]
def ASH (w : World) (F : Nat → Int) (k n gk : Nat) (s : Value) (wx : World) : Prop :=
 ∃ i : Nat,s = .int .i64 (i : Int) ∧ i ≤ n ∧ gk = n - i ∧ (∃ m,∃ x : List Int,∃ a c,Duo wx (w.heap.size + 1) (.bool m) (.slice a x.length c) ∧ Zm w.heap.size wx (.agg #[.bool m,.slice a x.length c]) (sgm F i) (k + i)) ∧ Duo wx w.heap.size (.bool false) (.slice none 0 0) ∧ Below w.heap.size w wx
theorem rsum5_z {w : World} {va : Value} {xs : List Int} {k : Nat} (ha : Zl w va xs k) (hk : k ≤ 549755813888) :
  Calls Tryz.prog 34 #[va] w (zOA w (zsum xs) (k + xs.length)) := by
 have A0 := hid ha;obtain ⟨a0,c0,rfl,hc0,hn0,hf0⟩ := ha.form9;have DV : Hid (zsum xs = sgm (fun j => xs.getD j 0) xs.length) := (sgm_all xs).symm;obtain ⟨D,hD⟩ : ∃ D,zsum xs = D := ⟨_,rfl⟩
 rw [hD] at DV ⊢;obtain ⟨n,hn⟩ : ∃ n,xs.length = n := ⟨_,rfl⟩
 rw [hn] at A0 hc0 hn0 DV ⊢;have HN := hid hn;have F0 := hid hf0;have HK := hid hk;clear ha hf0 hn hD hk;obtain ⟨W0,hW⟩ : ∃ W0,(w.alloc zbox).alloc zbox = W0 := ⟨_,rfl⟩
 obtain ⟨b0,sz0⟩ := zXA w zbox zbox;rw [hW] at b0 sz0;have p2 : Duo W0 w.heap.size (.bool false) (.slice none 0 0) := by rw [← hW];exact (Duo.new w _ _).later (by simp) _
 have p3 : Duo W0 (w.heap.size + 1) (.bool false) (.slice none 0 0) := by
  rw [← hW];have := Duo.new (w.alloc zbox) (.bool false) (.slice none 0 0)
  simpa using this
 have H0 : Hid (ASH w (fun j => xs.getD j 0) k n n (.int .i64 0) W0) := ⟨0,rfl,Nat.zero_le _,by omega,⟨_,[],_,_,p3,zLA _ _ _⟩,p2,b0⟩
 have EW := hid hW;clear b0 sz0 hW p2 p3;go_enter Tryz.func34,Tryz.ntmps34;go_wp2_with fail;rw [EW.out];clear EW
 go_loopg [4] n (fun gk si wx => ASH w (fun j => xs.getD j 0) k n gk si wx)
 case atStart => exact H0.out
 case round =>
  clear H0;obtain ⟨i,rfl,hin,hg,⟨m,x,ag,cg,hd,hz⟩,hr,hG⟩ := hrel;have PG := hid hd;have ZG := hid hz;have PR := hid hr;have G := hid hG;have HG := hid hg;clear hd hz hr hG hg
  by_cases hlt : i < n
  ·have hlt' : (i : Int) < (n : Int) := by omega
   obtain ⟨b1,o1,rfl⟩ := F0.out (fun e => by have := HN.out;rw [e] at this;simp at this;omega);obtain ⟨nf,xf,adf,qf,k0,k1,zf⟩ := (A0.out.now G.out).at9 (i := i) (by rw [HN.out];exact hlt);have EF : Hid (sgm (fun j => xs.getD j 0) i + xs[i]'(by rw [HN.out];exact hlt) = sgm (fun j => xs.getD j 0) (i + 1)) := by
    unfold Hid;rw [zrG,znD]
   have HS : Hid (∀ w',Below wr.heap.size wr w' → Calls Tryz.prog 30 #[.agg #[.bool m,.slice ag x.length cg],.agg #[.bool nf,.slice adf xf.length qf]] w' (zOA w' (sgm (fun j => xs.getD j 0) (i + 1)) (k + (i + 1)))) := fun w' h => by
    have hK := HK.out;have q := zxC (ZG.out.zi.now h) (zf.now h) (by omega) (by omega);rw [EF.out,show max (k + i) k + 1 = k + (i + 1) by omega] at q;exact q
   clear zf EF;have hw := zlG (i := i) (by omega);have g0 := PG.out.c0;have g1 := PG.out.c1;go_wp2_with fail;have KB : Hid (∀ w',Below wr.heap.size wr w' → w'.cell? ⟨b1,o1 + i * 2,none⟩ = some (.bool nf) ∧ w'.cell? ⟨b1,o1 + i * 2 + 1,none⟩ = some (.slice adf xf.length qf) ∧ w'.cell? ⟨w.heap.size + 1,0,none⟩ = some (.bool m) ∧ w'.cell? ⟨w.heap.size + 1,1,none⟩ = some (.slice ag x.length cg)) := fun w' h => ⟨cnow h k0,cnow h k1,cnow h g0,cnow h g1⟩
   refine zFA (fun w' => w'.cell? ⟨b1,o1 + i * 2,none⟩ = some (.bool nf) ∧ w'.cell? ⟨b1,o1 + i * 2 + 1,none⟩ = some (.slice adf xf.length qf) ∧ w'.cell? ⟨w.heap.size + 1,0,none⟩ = some (.bool m) ∧ w'.cell? ⟨w.heap.size + 1,1,none⟩ = some (.slice ag x.length cg)) 6 (by kernel_rfl) ?_;obtain ⟨D1,hD⟩ : ∃ D1,wr.drew = D1 := ⟨_,rfl⟩
   have GB : Hid (Below wr.heap.size wr D1) := by unfold Hid;rw [← hD];exact (Below.refl _ _).drew
   rw [hD];clear hD;have GBs := GB;refine zBA (i := 0) (oi := ⟨some 12,.load 26 (.tmp 3),26, "ref.go:140",#[],none⟩) (v := (.agg #[.bool m,.slice ag x.length cg])) rfl (by kernel_rfl) (fun _ _ _ h => h) (Or.inl ⟨by rfl,?_⟩) (KB.out _ GB.out) ?_
   ·intro w hSw;(try dsimp only at hSw);go_simp
   simp only [Act.put,sIb,sC0,sC1];refine zBA (i := 1) (oi := ⟨some 13,.move (.tmp 0),27, "ref.go:140",#[],none⟩) (v := (.slice (some ⟨b1,o1,none⟩) n c0)) rfl (by kernel_rfl) (fun _ _ _ h => h) (Or.inl ⟨by rfl,?_⟩) (KB.out _ GB.out) ?_
   ·intro w hSw;(try dsimp only at hSw);go_simp
   simp only [Act.put,sIb,sC0,sC1];refine zBA (i := 2) (oi := ⟨some 14,.move (.tmp 4),3, "ref.go:140",#[],none⟩) (v := (.int .i64 (i : Int))) rfl (by kernel_rfl) (fun _ _ _ h => h) (Or.inl ⟨by rfl,?_⟩) (KB.out _ GB.out) ?_
   ·intro w hSw;(try dsimp only at hSw);go_simp
   simp only [Act.put,sIb,sC0,sC1];refine zBA (i := 3) (oi := ⟨some 15,.indexAddr 27 (.tmp 13) (.tmp 14),0, "ref.go:140",#[⟨1,.data⟩,⟨2,.data⟩],none⟩) (v := (.pointer (some ⟨b1,o1 + i * 2,none⟩))) rfl (by kernel_rfl) (fun _ _ _ h => h) (Or.inl ⟨by rfl,?_⟩) (KB.out _ GB.out) ?_
   ·intro w hSw;(try dsimp only at hSw);go_simp
   simp only [Act.put,sIb,sC0,sC1];refine zBA (i := 4) (oi := ⟨some 16,.load 26 (.tmp 15),26, "ref.go:140",#[⟨3,.data⟩],none⟩) (v := (.agg #[.bool nf,.slice adf xf.length qf])) rfl (by kernel_rfl) (fun _ _ _ h => h) (Or.inl ⟨by rfl,?_⟩) (KB.out _ GB.out) ?_
   ·intro w hSw;(try dsimp only at hSw);go_simp
   simp only [Act.put,sIb,sC0,sC1];refine zDA (i := 5) (o := ⟨some 17,.call { callee := .value (.func 30),args := #[.tmp 12,.tmp 16],argTypes := #[26,26] },26, "ref.go:140",#[⟨0,.data⟩,⟨4,.data⟩],none⟩) (by kernel_rfl) rfl (fun K hK => ?_);go_simp;go_at_call 30;refine (HS.out _ GB.out).mono ?_;rintro e w2 ⟨r,rfl,m1,b⟩;have lz2 := (show Below _ _ _ from b).size;replace GB := hid (below_step GB.out b);have PG2 := hid (PG.out.step (below_step (w0 := wr) GBs.out b));have PR2 := hid (PR.out.step (below_step (w0 := wr) GBs.out b));have G2 := hid (below_step G.out (below_step (w0 := wr) GBs.out b));have lzz := Nat.le_trans G.out.size (Nat.le_trans GBs.out.size (show Below _ _ _ from b).size);have lzy := Nat.le_trans G.out.size GBs.out.size;have M1 := hid (m1.mono lzy);obtain ⟨nr,xr,ar,cr,rfl⟩ := m1.parts;clear m1;clear b;refine hK.out _ _ (fun _ => KB.out _ GB.out) ?_;clear hK;refine zDA (i := 6) (o := ⟨none,.store 26 (.tmp 3) (.tmp 17),0, "ref.go:140",#[⟨5,.data⟩,⟨5,.chain⟩,⟨0,.phase⟩,⟨1,.phase⟩,⟨2,.phase⟩,⟨3,.phase⟩,⟨4,.phase⟩,⟨5,.phase⟩],none⟩) (by kernel_rfl) rfl (fun K hK => ?_);have e0 := PG2.out.c0;have e1 := PG2.out.c1;have e2 := PG2.out.fz 0;have e3 := PG2.out.fz 1;go_simp;clear e0 e1 e2 e3;obtain ⟨V3,hW⟩ : ∃ V3,((w2.setCell ⟨w.heap.size + 1,0,none⟩ (.bool nr)).setCell ⟨w.heap.size + 1,1,none⟩ (.slice ar xr.length cr)) = V3 := ⟨_,rfl⟩
   have HN1 : Hid (ASH w (fun j => xs.getD j 0) k n (n - (i + 1)) (.int .i64 ((i + 1 : Nat) : Int)) V3) := by
    unfold Hid;rw [← hW];exact ⟨i + 1,rfl,by omega,rfl,⟨_,_,_,_,PG2.out.set _ _,M1.out.box PG2.out _ _⟩,PR2.out.box (by omega) _ _,bset (bset G2.out (by omega)) (by omega)⟩
   rw [hW];clear hW;refine hK.out _ _ (fun h => absurd h (by decide)) ?_;clear hK
   try simp only [Act.put]
   refine zIA (by kernel_rfl) ?_ _;have HMM : Hid (n - (i + 1) < gk) := by unfold Hid;rw [HG.out];omega
   clear HS PG PR G HG PG2 PR2 G2 M1 ZG GBs GB KB;go_wp2_with fail;go_roundg (n - (i + 1))
   case rel => exact HN1.out
   case measure => exact HMM.out
  ·have hlt' : ¬ (i : Int) < (n : Int) := by omega
   obtain rfl : i = n := by omega
   rw [← DV.out] at ZG;have g0 := PG.out.c0;have g1 := PG.out.c1;have r0 := PR.out.c0;have r1 := PR.out.c1;have f0 := PR.out.fz 0;have f1 := PR.out.fz 1;have FIN : Hid (zOA w D (k + i) (.returned (.agg #[.bool m,.slice ag x.length cg])) ((wr.setCell ⟨w.heap.size,0,none⟩ (.bool m)).setCell ⟨w.heap.size,1,none⟩ (.slice ag x.length cg))) := ⟨_,rfl,ZG.out.box PR.out _ _,bset (bset G.out (Nat.le_refl _)) (Nat.le_refl _)⟩
   clear HG ZG G;go_wp2;exact bodyPost_ret (zBB Tryz.results34 (PR.out.set _ _) _ (by rfl)) rfl FIN.out
theorem rdot5_z {w : World} {va vb : Value} {xs ys : List Int} {k l : Nat} (ha : Zl w va xs k) (hb : Zl w vb ys l) (he : ys.length = xs.length) (hk : k + l ≤ 549755813888) :
  Calls Tryz.prog 35 #[va,vb] w (zMA 0 w (dotv xs ys) (k + l + xs.length)) := by
 have A0 := hid ha;have B0 := hid hb;obtain ⟨a0,c0,rfl,hc0,hn0,hf0⟩ := ha.form9;obtain ⟨a1,c1,rfl,hc1,hn1,hf1⟩ := hb.form9;have DV : Hid (dotv xs ys = sgm (fun j => xs.getD j 0 * ys.getD j 0) xs.length) := rfl;obtain ⟨D,hD⟩ : ∃ D,dotv xs ys = D := ⟨_,rfl⟩
 rw [hD] at DV ⊢;obtain ⟨n,hn⟩ : ∃ n,xs.length = n := ⟨_,rfl⟩
 rw [he] at hc1 hn1 B0 ⊢;rw [hn] at A0 B0 hc0 hn0 hc1 hn1 DV ⊢;have HN := hid hn;have HE := hid (he.trans hn);have F0 := hid hf0;have F1 := hid hf1;have HK := hid hk;clear ha hb hf0 hf1 hn he hD hk;have q0 : ((n : Int) != (n : Int)) = false := by simp
 obtain ⟨W0,hW⟩ : ∃ W0,(w.alloc zbox).alloc zbox = W0 := ⟨_,rfl⟩
 obtain ⟨b0,sz0⟩ := zXA w zbox zbox;rw [hW] at b0 sz0;have p2 : Duo W0 w.heap.size (.bool false) (.slice none 0 0) := by rw [← hW];exact (Duo.new w _ _).later (by simp) _
 have p3 : Duo W0 (w.heap.size + 1) (.bool false) (.slice none 0 0) := by
  rw [← hW];have := Duo.new (w.alloc zbox) (.bool false) (.slice none 0 0)
  simpa using this
 have H0 : Hid (ASH w (fun j => xs.getD j 0 * ys.getD j 0) (k + l) n n (.int .i64 0) W0) := ⟨0,rfl,Nat.zero_le _,by omega,⟨_,[],_,_,p3,zLA _ _ _⟩,p2,b0⟩
 have EW := hid hW;clear b0 sz0 hW p2 p3;go_enter Tryz.func35,Tryz.ntmps35;go_wp2_with fail;rw [EW.out];clear EW
 go_loopg [7] n (fun gk si wx => ASH w (fun j => xs.getD j 0 * ys.getD j 0) (k + l) n gk si wx)
 case atStart => exact H0.out
 case round =>
  clear H0;obtain ⟨i,rfl,hin,hg,⟨m,x,ag,cg,hd,hz⟩,hr,hG⟩ := hrel;have PG := hid hd;have ZG := hid hz;have PR := hid hr;have G := hid hG;have HG := hid hg;clear hd hz hr hG hg
  by_cases hlt : i < n
  ·have hlt' : (i : Int) < (n : Int) := by omega
   obtain ⟨b1,o1,rfl⟩ := F0.out (fun e => by have := HN.out;rw [e] at this;simp at this;omega);obtain ⟨nf,xf,adf,qf,k0,k1,zf⟩ := (A0.out.now G.out).at9 (i := i) (by rw [HN.out];exact hlt);obtain ⟨b2,o2,rfl⟩ := F1.out (fun e => by have := HE.out;rw [e] at this;simp at this;omega);obtain ⟨ng,xg,adg,qg,k2,k3,zg⟩ := (B0.out.now G.out).at9 (i := i) (by rw [HE.out];exact hlt);have EF : Hid (xs[i]'(by rw [HN.out];exact hlt) * ys[i]'(by rw [HE.out];exact hlt) + sgm (fun j => xs.getD j 0 * ys.getD j 0) i = sgm (fun j => xs.getD j 0 * ys.getD j 0) (i + 1)) := by
    unfold Hid;rw [zrG,znD,znD];omega
   have HS : Hid (∀ w',Below wr.heap.size wr w' → Calls Tryz.prog 33 #[.agg #[.bool nf,.slice adf xf.length qf],.agg #[.bool ng,.slice adg xg.length qg],.agg #[.bool m,.slice ag x.length cg]] w' (zOA w' (sgm (fun j => xs.getD j 0 * ys.getD j 0) (i + 1)) (k + l + (i + 1)))) := fun w' h => by
    have hK := HK.out;have q := zCG (zf.now h) (zg.now h) (ZG.out.zi.now h) (by omega) (by omega);rw [EF.out,show max (k + l) (k + l + i) + 1 = k + l + (i + 1) by omega] at q;exact q
   clear zf zg EF;have hw := zlG (i := i) (by omega);have g0 := PG.out.c0;have g1 := PG.out.c1;go_wp2_with fail;have KB : Hid (∀ w',Below wr.heap.size wr w' → w'.cell? ⟨b1,o1 + i * 2,none⟩ = some (.bool nf) ∧ w'.cell? ⟨b1,o1 + i * 2 + 1,none⟩ = some (.slice adf xf.length qf) ∧ w'.cell? ⟨b2,o2 + i * 2,none⟩ = some (.bool ng) ∧ w'.cell? ⟨b2,o2 + i * 2 + 1,none⟩ = some (.slice adg xg.length qg) ∧ w'.cell? ⟨w.heap.size + 1,0,none⟩ = some (.bool m) ∧ w'.cell? ⟨w.heap.size + 1,1,none⟩ = some (.slice ag x.length cg)) := fun w' h => ⟨cnow h k0,cnow h k1,cnow h k2,cnow h k3,cnow h g0,cnow h g1⟩
   refine zFA (fun w' => w'.cell? ⟨b1,o1 + i * 2,none⟩ = some (.bool nf) ∧ w'.cell? ⟨b1,o1 + i * 2 + 1,none⟩ = some (.slice adf xf.length qf) ∧ w'.cell? ⟨b2,o2 + i * 2,none⟩ = some (.bool ng) ∧ w'.cell? ⟨b2,o2 + i * 2 + 1,none⟩ = some (.slice adg xg.length qg) ∧ w'.cell? ⟨w.heap.size + 1,0,none⟩ = some (.bool m) ∧ w'.cell? ⟨w.heap.size + 1,1,none⟩ = some (.slice ag x.length cg)) 10 (by kernel_rfl) ?_;obtain ⟨D1,hD⟩ : ∃ D1,wr.drew = D1 := ⟨_,rfl⟩
   have GB : Hid (Below wr.heap.size wr D1) := by unfold Hid;rw [← hD];exact (Below.refl _ _).drew
   rw [hD];clear hD;have GBs := GB;refine zBA (i := 0) (oi := ⟨some 21,.move (.tmp 0),27, "ref.go:152",#[],none⟩) (v := (.slice (some ⟨b1,o1,none⟩) n c0)) rfl (by kernel_rfl) (fun _ _ _ h => h) (Or.inl ⟨by rfl,?_⟩) (KB.out _ GB.out) ?_
   ·intro w hSw;(try dsimp only at hSw);go_simp
   simp only [Act.put,sIb,sC0,sC1];refine zBA (i := 1) (oi := ⟨some 22,.move (.tmp 7),3, "ref.go:152",#[],none⟩) (v := (.int .i64 (i : Int))) rfl (by kernel_rfl) (fun _ _ _ h => h) (Or.inl ⟨by rfl,?_⟩) (KB.out _ GB.out) ?_
   ·intro w hSw;(try dsimp only at hSw);go_simp
   simp only [Act.put,sIb,sC0,sC1];refine zBA (i := 2) (oi := ⟨some 23,.indexAddr 27 (.tmp 21) (.tmp 22),0, "ref.go:152",#[⟨0,.data⟩,⟨1,.data⟩],none⟩) (v := (.pointer (some ⟨b1,o1 + i * 2,none⟩))) rfl (by kernel_rfl) (fun _ _ _ h => h) (Or.inl ⟨by rfl,?_⟩) (KB.out _ GB.out) ?_
   ·intro w hSw;(try dsimp only at hSw);go_simp
   simp only [Act.put,sIb,sC0,sC1];refine zBA (i := 3) (oi := ⟨some 24,.load 26 (.tmp 23),26, "ref.go:152",#[⟨2,.data⟩],none⟩) (v := (.agg #[.bool nf,.slice adf xf.length qf])) rfl (by kernel_rfl) (fun _ _ _ h => h) (Or.inl ⟨by rfl,?_⟩) (KB.out _ GB.out) ?_
   ·intro w hSw;(try dsimp only at hSw);go_simp
   simp only [Act.put,sIb,sC0,sC1];refine zBA (i := 4) (oi := ⟨some 25,.move (.tmp 1),27, "ref.go:152",#[],none⟩) (v := (.slice (some ⟨b2,o2,none⟩) n c1)) rfl (by kernel_rfl) (fun _ _ _ h => h) (Or.inl ⟨by rfl,?_⟩) (KB.out _ GB.out) ?_
   ·intro w hSw;(try dsimp only at hSw);go_simp
   simp only [Act.put,sIb,sC0,sC1];refine zBA (i := 5) (oi := ⟨some 26,.move (.tmp 7),3, "ref.go:152",#[],none⟩) (v := (.int .i64 (i : Int))) rfl (by kernel_rfl) (fun _ _ _ h => h) (Or.inl ⟨by rfl,?_⟩) (KB.out _ GB.out) ?_
   ·intro w hSw;(try dsimp only at hSw);go_simp
   simp only [Act.put,sIb,sC0,sC1];refine zBA (i := 6) (oi := ⟨some 27,.indexAddr 27 (.tmp 25) (.tmp 26),0, "ref.go:152",#[⟨4,.data⟩,⟨5,.data⟩],none⟩) (v := (.pointer (some ⟨b2,o2 + i * 2,none⟩))) rfl (by kernel_rfl) (fun _ _ _ h => h) (Or.inl ⟨by rfl,?_⟩) (KB.out _ GB.out) ?_
   ·intro w hSw;(try dsimp only at hSw);go_simp
   simp only [Act.put,sIb,sC0,sC1];refine zBA (i := 7) (oi := ⟨some 28,.load 26 (.tmp 27),26, "ref.go:152",#[⟨6,.data⟩],none⟩) (v := (.agg #[.bool ng,.slice adg xg.length qg])) rfl (by kernel_rfl) (fun _ _ _ h => h) (Or.inl ⟨by rfl,?_⟩) (KB.out _ GB.out) ?_
   ·intro w hSw;(try dsimp only at hSw);go_simp
   simp only [Act.put,sIb,sC0,sC1];refine zBA (i := 8) (oi := ⟨some 29,.load 26 (.tmp 6),26, "ref.go:152",#[],none⟩) (v := (.agg #[.bool m,.slice ag x.length cg])) rfl (by kernel_rfl) (fun _ _ _ h => h) (Or.inl ⟨by rfl,?_⟩) (KB.out _ GB.out) ?_
   ·intro w hSw;(try dsimp only at hSw);go_simp
   simp only [Act.put,sIb,sC0,sC1];refine zDA (i := 9) (o := ⟨some 30,.call { callee := .value (.func 33),args := #[.tmp 24,.tmp 28,.tmp 29],argTypes := #[26,26,26] },26, "ref.go:152",#[⟨3,.data⟩,⟨7,.data⟩,⟨8,.data⟩],none⟩) (by kernel_rfl) rfl (fun K hK => ?_);go_simp;go_at_call 33;refine (HS.out _ GB.out).mono ?_;rintro e w2 ⟨r,rfl,m1,b⟩;have lz2 := (show Below _ _ _ from b).size;replace GB := hid (below_step GB.out b);have PG2 := hid (PG.out.step (below_step (w0 := wr) GBs.out b));have PR2 := hid (PR.out.step (below_step (w0 := wr) GBs.out b));have G2 := hid (below_step G.out (below_step (w0 := wr) GBs.out b));have lzz := Nat.le_trans G.out.size (Nat.le_trans GBs.out.size (show Below _ _ _ from b).size);have lzy := Nat.le_trans G.out.size GBs.out.size;have M1 := hid (m1.mono lzy);obtain ⟨nr,xr,ar,cr,rfl⟩ := m1.parts;clear m1;clear b;refine hK.out _ _ (fun _ => KB.out _ GB.out) ?_;clear hK;refine zDA (i := 10) (o := ⟨none,.store 26 (.tmp 6) (.tmp 30),0, "ref.go:152",#[⟨9,.data⟩,⟨9,.chain⟩,⟨0,.phase⟩,⟨1,.phase⟩,⟨2,.phase⟩,⟨3,.phase⟩,⟨4,.phase⟩,⟨5,.phase⟩,⟨6,.phase⟩,⟨7,.phase⟩,⟨8,.phase⟩,⟨9,.phase⟩],none⟩) (by kernel_rfl) rfl (fun K hK => ?_);have e0 := PG2.out.c0;have e1 := PG2.out.c1;have e2 := PG2.out.fz 0;have e3 := PG2.out.fz 1;go_simp;clear e0 e1 e2 e3;obtain ⟨V3,hW⟩ : ∃ V3,((w2.setCell ⟨w.heap.size + 1,0,none⟩ (.bool nr)).setCell ⟨w.heap.size + 1,1,none⟩ (.slice ar xr.length cr)) = V3 := ⟨_,rfl⟩
   have HN1 : Hid (ASH w (fun j => xs.getD j 0 * ys.getD j 0) (k + l) n (n - (i + 1)) (.int .i64 ((i + 1 : Nat) : Int)) V3) := by
    unfold Hid;rw [← hW];exact ⟨i + 1,rfl,by omega,rfl,⟨_,_,_,_,PG2.out.set _ _,M1.out.box PG2.out _ _⟩,PR2.out.box (by omega) _ _,bset (bset G2.out (by omega)) (by omega)⟩
   rw [hW];clear hW;refine hK.out _ _ (fun h => absurd h (by decide)) ?_;clear hK
   try simp only [Act.put]
   refine zIA (by kernel_rfl) ?_ _;have HMM : Hid (n - (i + 1) < gk) := by unfold Hid;rw [HG.out];omega
   clear HS PG PR G HG PG2 PR2 G2 M1 ZG GBs GB KB;go_wp2_with fail;go_roundg (n - (i + 1))
   case rel => exact HN1.out
   case measure => exact HMM.out
  ·have hlt' : ¬ (i : Int) < (n : Int) := by omega
   obtain rfl : i = n := by omega
   rw [← DV.out] at ZG;have g0 := PG.out.c0;have g1 := PG.out.c1;have r0 := PR.out.c0;have r1 := PR.out.c1;have f0 := PR.out.fz 0;have f1 := PR.out.fz 1;have FIN : Hid (zMA 0 w D ((k + l) + i) (.returned (.tuple #[.agg #[.bool m,.slice ag x.length cg],.int .i64 0])) ((wr.setCell ⟨w.heap.size,0,none⟩ (.bool m)).setCell ⟨w.heap.size,1,none⟩ (.slice ag x.length cg))) := ⟨_,rfl,ZG.out.box PR.out _ _,bset (bset G.out (Nat.le_refl _)) (Nat.le_refl _)⟩
   clear HG ZG G;go_wp2;exact bodyPost_ret (zWA Tryz.results35 (PR.out.set _ _) _ (by rfl) (by rfl)) rfl FIN.out
theorem rdot5_fit {w : World} {va vb : Value} {xs ys : List Int} {k l : Nat} (ha : Zl w va xs k) (hb : Zl w vb ys l) (he : ys.length ≠ xs.length) :
  Calls Tryz.prog 35 #[va,vb] w (zMA 2 w 0 0) := by
 obtain ⟨a0,c0,rfl,hc0,hn0,hf0⟩ := ha.form9;obtain ⟨a1,c1,rfl,hc1,hn1,hf1⟩ := hb.form9;have q0 : ((xs.length : Int) != (ys.length : Int)) = true := by simp;omega
 obtain ⟨W0,hW⟩ : ∃ W0,w.alloc zbox = W0 := ⟨_,rfl⟩
 obtain ⟨b0,sz0⟩ := alo1 w zbox;rw [hW] at b0 sz0;have P4 : Hid (Duo W0 w.heap.size (.bool false) (.slice none 0 0)) := by unfold Hid;rw [← hW];exact Duo.new w _ _
 have G0 := hid b0;have y0 := P4.out.c0;have y1 := P4.out.c1;have f0 := P4.out.fz 0;have f1 := P4.out.fz 1;rw [← hW] at y0 y1 f0 f1;have EW := hid hW;clear b0 hW sz0 ha hb hf0 hf1 hc0 hc1 hn0 hn1 he;generalize xs.length = n0 at *;generalize ys.length = n1 at *;go_enter Tryz.func35,Tryz.ntmps35;go_wp2;rw [EW.out];exact bodyPost_ret (zWA Tryz.results35 P4.out _ (by rfl) (by rfl)) rfl ⟨_,rfl,zLA _ _ _,G0.out⟩
theorem dot5_fit {w : World} {va vb : Value} {xs ys : List Int} {k l : Nat} (ha : Zl w va xs k) (hb : Zl w vb ys l) (he : ys.length ≠ xs.length) :
  Calls Tryz.prog 50 #[va,vb] w (zMA 2 w 0 0) := by
 obtain ⟨a0,c0,rfl,hc0,hn0,hf0⟩ := ha.form9;obtain ⟨a1,c1,rfl,hc1,hn1,hf1⟩ := hb.form9;have q0 : ((xs.length : Int) != (ys.length : Int)) = true := by simp;omega
 obtain ⟨W0,hW⟩ : ∃ W0,w.alloc zbox = W0 := ⟨_,rfl⟩
 obtain ⟨b0,sz0⟩ := alo1 w zbox;rw [hW] at b0 sz0;have P4 : Hid (Duo W0 w.heap.size (.bool false) (.slice none 0 0)) := by unfold Hid;rw [← hW];exact Duo.new w _ _
 have G0 := hid b0;have y0 := P4.out.c0;have y1 := P4.out.c1;have f0 := P4.out.fz 0;have f1 := P4.out.fz 1;rw [← hW] at y0 y1 f0 f1;have EW := hid hW;clear b0 hW sz0 ha hb hf0 hf1 hc0 hc1 hn0 hn1 he;generalize xs.length = n0 at *;generalize ys.length = n1 at *;go_enter Tryz.func50,Tryz.ntmps50;go_wp2;rw [EW.out];exact bodyPost_ret (zWA Tryz.results50 P4.out _ (by rfl) (by rfl)) rfl ⟨_,rfl,zLA _ _ _,G0.out⟩
end Go.Proofs.YtkdobgbicnemcaaGreatDoor
