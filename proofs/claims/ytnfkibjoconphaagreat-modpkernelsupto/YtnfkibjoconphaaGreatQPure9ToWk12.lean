/-
 QPure9ToWk12: Pure9, Wk9, Turn9, ChkN9, Dt12, Wk12, joined.
-/
import Derived.Test.YtnfkibjoconphaaGreatQChk9ToFn12
import Derived.Test.YtnfkibjoconphaaGreatQRd12

set_option maxRecDepth 100000
set_option maxHeartbeats 6400000
set_option linter.unusedVariables false
set_option linter.unusedSimpArgs false
namespace Go.Proofs.YtnfkibjoconphaaGreat

open Go.RowKit

theorem isShape_raw {w : World} {r c : Int} : Calls Tryz.prog 74 #[.int .i64 r,.int .i64 c] w fun e w' => e = .returned (.bool (decide (0 ≤ r ∧ 0 ≤ c ∧ r ≤ 64 ∧ c ≤ 64))) ∧ w' = w := by
 by_cases h1 : 0 ≤ min r c
 ·by_cases h2 : max r c ≤ 64
  ·have e : decide (0 ≤ r ∧ 0 ≤ c ∧ r ≤ 64 ∧ c ≤ 64) = true := by rw [decide_eq_true_eq];omega
   rw [e];clear e;go_enter Tryz.func74,Tryz.ntmps74;go_wp2;go_ret;exact ⟨rfl,rfl⟩
  ·have e : decide (0 ≤ r ∧ 0 ≤ c ∧ r ≤ 64 ∧ c ≤ 64) = false := by rw [decide_eq_false_iff_not];omega
   rw [e];clear e;go_enter Tryz.func74,Tryz.ntmps74;go_wp2;go_ret;exact ⟨rfl,rfl⟩
 ·have e : decide (0 ≤ r ∧ 0 ≤ c ∧ r ≤ 64 ∧ c ≤ 64) = false := by rw [decide_eq_false_iff_not];omega
  rw [e];clear e;go_enter Tryz.func74,Tryz.ntmps74;go_wp2;go_ret;exact ⟨rfl,rfl⟩
theorem check_no {w : World} {r c : Int} {a : Option Addr} {l cap : Nat} (h : ¬ Snd r c l) : Calls Tryz.prog 55 #[.agg #[.int .i64 r,.int .i64 c,.slice a l cap]] w fun e w' => e = .returned (.int .i64 1) ∧ Below w.heap.size w w' := by
 obtain ⟨W0,hW⟩ : ∃ W0,w.alloc (.cells #[.int .i64 r,.int .i64 c,.slice a l cap] 24) = W0 := ⟨_,rfl⟩
 obtain ⟨b0,sz0⟩ := alo1 w (.cells #[.int .i64 r,.int .i64 c,.slice a l cap] 24);rw [hW] at b0 sz0;have P1 : Hid (Cel W0 w.heap.size 24 [.int .i64 r,.int .i64 c,.slice a l cap]) := by unfold Hid;rw [← hW];exact Cel.new w _ _
 have x0 := P1.out.at (i := 0) rfl;have x1 := P1.out.at (i := 1) rfl;have x2 := P1.out.at (i := 2) rfl;rw [← hW] at x0 x1 x2;have HS := hid (isShape_raw (w := W0) (r := r) (c := c));have G0 := hid b0;have EW := hid hW;clear b0 sz0 hW P1
 by_cases hs : 0 ≤ r ∧ 0 ≤ c ∧ r ≤ 64 ∧ c ≤ 64
 ·have e : decide (0 ≤ r ∧ 0 ≤ c ∧ r ≤ 64 ∧ c ≤ 64) = true := decide_eq_true hs
  rw [e] at HS;have hm : 0 ≤ r * c ∧ r * c ≤ 64 * 64 := ⟨Int.mul_nonneg hs.1 hs.2.1,Int.mul_le_mul hs.2.2.1 hs.2.2.2 hs.2.1 (by omega)⟩
  have hw : IntKind.i64.wrap (r * c) = r * c := by rw [zPA] <;> omega
  obtain ⟨q,hq⟩ : ∃ q,r * c = q := ⟨_,rfl⟩
  have hne : ¬ ((l : Int) = q) := fun h2 => h ⟨hs.1,hs.2.2.1,hs.2.1,hs.2.2.2,h2.trans hq.symm⟩
  replace hw : IntKind.i64.wrap (r * c) = q := hw.trans hq;have hw2 := hw;rw [IntKind.wrap_i64] at hw2;have q0 : ((l : Int) != q) = true := by simpa using hne
  clear h hs e hm hq hne;go_enter Tryz.func55,Tryz.ntmps55;go_wp2_with fail;rw [EW.out];refine HS.out.mono ?_;rintro e w1 ⟨rfl,rfl⟩;rw [EW.out] at x0 x1 x2;go_wp2;go_ret;exact ⟨rfl,G0.out⟩
 ·have e : decide (0 ≤ r ∧ 0 ≤ c ∧ r ≤ 64 ∧ c ≤ 64) = false := decide_eq_false hs
  rw [e] at HS;clear h hs e;go_enter Tryz.func55,Tryz.ntmps55;go_wp2_with fail;rw [EW.out];refine HS.out.mono ?_;rintro e w1 ⟨rfl,rfl⟩;go_wp2;go_ret;exact ⟨rfl,G0.out⟩
abbrev mrV (r c : Int) (a : Option Addr) (l cap : Nat) : Value := .agg #[.int .i64 r,.int .i64 c,.slice a l cap]
abbrev mrO (r c : Int) (a : Option Addr) (l cap : Nat) : Obj := .cells #[.int .i64 r,.int .i64 c,.slice a l cap] 24
abbrev mrC (r c : Int) (a : Option Addr) (l cap : Nat) : List Value := [.int .i64 r,.int .i64 c,.slice a l cap]
theorem zMD {w : World} {r c : Int} {a : Option Addr} {l cap : Nat} : Calls Tryz.prog 48 #[mrV r c a l cap] w fun e w' => e = .returned (.bool (r == c)) ∧ Below w.heap.size w w' := by
 obtain ⟨W0,hW⟩ : ∃ W0,w.alloc (mrO r c a l cap) = W0 := ⟨_,rfl⟩
 obtain ⟨b0,sz0⟩ := zJA w (mrO r c a l cap);rw [hW] at b0 sz0;have P1 : Hid (Cel W0 w.heap.size 24 (mrC r c a l cap)) := by unfold Hid;rw [← hW];exact Cel.new w _ _
 have x0 := P1.out.at (i := 0) rfl;have x1 := P1.out.at (i := 1) rfl;rw [← hW] at x0 x1;have G0 := hid b0;have EW := hid hW;clear b0 sz0 hW P1;go_enter Tryz.func48,Tryz.ntmps48;go_wp2;go_ret;exact ⟨rfl,by rw [EW.out];exact G0.out⟩
def gdB (p : Nat) : Bool := decide (p < 2147483648) && prB p
def zNA (s f : Bool) (p : Nat) : Int := if s = false then 1 else if f = false then 2 else if gdB p = false then 9 else 0
theorem zJB {w : World} {r c : Int} {a : Option Addr} {l cap p : Nat} {s f : Bool} (hc : ∀ w',Below w.heap.size w w' → Calls Tryz.prog 55 #[mrV r c a l cap] w' fun e w'' => e = .returned (.int .i64 (if s = true then 0 else 1)) ∧ Below w'.heap.size w' w'') :
  Calls Tryz.prog 29 #[mrV r c a l cap,.bool f,.int .u64 (p : Int)] w fun e w' => e = .returned (.int .i64 (zNA s f p)) ∧ Below w.heap.size w w' := by
 obtain ⟨W0,hW⟩ : ∃ W0,w.alloc (mrO r c a l cap) = W0 := ⟨_,rfl⟩
 obtain ⟨b0,sz0⟩ := zJA w (mrO r c a l cap);rw [hW] at b0 sz0;have P1 : Hid (Cel W0 w.heap.size 24 (mrC r c a l cap)) := by unfold Hid;rw [← hW];exact Cel.new w _ _
 have x0 := P1.out.at (i := 0) rfl;have x1 := P1.out.at (i := 1) rfl;have x2 := P1.out.at (i := 2) rfl;rw [← hW] at x0 x1 x2;have HC := hid (hc W0 b0);have G0 := hid b0;have EW := hid hW;have HF : Hid (∀ s f p,zNA s f p = if s = false then 1 else if f = false then 2 else if gdB p = false then 9 else 0) := fun _ _ _ => rfl
 obtain ⟨E,hE⟩ : ∃ E,zNA s f p = E := ⟨_,rfl⟩
 rw [hE];have HE := hid hE;clear b0 sz0 hW P1 hc hE;rcases Bool.eq_false_or_eq_true s with hs | hs
 ·subst hs
  rcases Bool.eq_false_or_eq_true f with hf | hf
  ·subst hf
   by_cases hp : p < 2147483648
   ·have hp1 : ¬ (2147483648 : Int) ≤ (p : Int) := by omega
    go_enter Tryz.func29,Tryz.ntmps29;go_wp2_with fail;rw [EW.out];refine HC.out.mono ?_;rintro e w1 ⟨rfl,b1⟩;have G1 := hid (below_step G0.out b1);have HP := hid (zHE (w := w1) hp);obtain ⟨q,hq⟩ : ∃ q,prB p = q := ⟨_,rfl⟩
    have HQ := hid hq;rw [hq] at HP;clear HC b1 hq;go_wp2_with fail;refine HP.out.mono ?_;rintro e w2 ⟨rfl,hw2⟩;have hw2' := hw2.symm;subst hw2';clear hw2 HP;have h1 := HE.out;have h2 : gdB p = q := by unfold gdB;rw [HQ.out];simp [hp]
    rw [HF.out,h2] at h1;have HE1 := hid h1;have hd1 : decide ((2147483648 : Int) ≤ (p : Int)) = false := decide_eq_false (by omega);clear h1 h2 hp;rcases Bool.eq_false_or_eq_true q with hq | hq
    ·subst hq
     go_wp2;go_ret;exact ⟨by rw [← HE1.out];rfl,G1.out⟩
    ·subst hq
     go_wp2;go_ret;exact ⟨by rw [← HE1.out];rfl,G1.out⟩
   ·have hp1 : (2147483648 : Int) ≤ (p : Int) := by omega
    go_enter Tryz.func29,Tryz.ntmps29;go_wp2_with fail;rw [EW.out];refine HC.out.mono ?_;rintro e w1 ⟨rfl,b1⟩;have G1 := hid (below_step G0.out b1);have h1 := HE.out;have h2 : gdB p = false := by unfold gdB;simp [hp]
    rw [HF.out,h2] at h1;have HE1 := hid h1;clear HC b1 h1 h2;go_wp2;go_ret;exact ⟨by rw [← HE1.out];rfl,G1.out⟩
  ·subst hf
   go_enter Tryz.func29,Tryz.ntmps29;go_wp2_with fail;rw [EW.out];refine HC.out.mono ?_;rintro e w1 ⟨rfl,b1⟩;have G1 := hid (below_step G0.out b1);have h1 := HE.out;rw [HF.out] at h1;have HE1 := hid h1;clear HC b1 h1;go_wp2;go_ret;exact ⟨by rw [← HE1.out];rfl,G1.out⟩
 ·subst hs
  go_enter Tryz.func29,Tryz.ntmps29;go_wp2_with fail;rw [EW.out];refine HC.out.mono ?_;rintro e w1 ⟨rfl,b1⟩;have G1 := hid (below_step G0.out b1);have h1 := HE.out;rw [HF.out] at h1;have HE1 := hid h1;clear HC b1 h1;go_wp2;go_ret;exact ⟨by rw [← HE1.out];rfl,G1.out⟩
theorem Mx.chk {w : World} {v : Value} {r c : Nat} {zs : List Int} {K : Nat} (h : Mx w v r c zs K) : ∀ w',Below w.heap.size w w' → Calls Tryz.prog 55 #[v] w' fun e w'' => e = .returned (.int .i64 (if true = true then 0 else 1)) ∧ Below w'.heap.size w' w'' := fun w' hb => check_yes (h.now hb)
def detN (p r : Nat) (zs : List Int) : Int := if (zUA p (zHA p r r zs) r).pv.length < r then 0 else (zUA p (zHA p r r zs) r).f
def Det12 (w : World) (d E : Int) (e : Ending) (w' : World) : Prop := e = .returned (.tuple #[.int .u64 d,.int .i64 E]) ∧ Below w.heap.size w w'
theorem det12 {w : World} {v : Value} {p r : Nat} {zs : List Int} {K : Nat} (hp : gdB p = true) (h : Mx w v r r zs K) (hK : K ≤ 1099511627775) : Calls Tryz.prog 22 #[v,.int .u64 (p : Int)] w (Det12 w (detN p r zs) 0) := by
 have hgd := hp;unfold gdB at hgd;rw [Bool.and_eq_true,decide_eq_true_eq,zBF] at hgd;obtain ⟨hp2,hpr⟩ := hgd;have hp1 := hpr.1;have hm0 := h;obtain ⟨a,cap,rfl,hr,-⟩ := h.form;obtain ⟨n,hn⟩ : ∃ n,r * r = n := ⟨_,rfl⟩
 rw [hn] at hm0 ⊢;have hl : zs.length = r * r := by obtain ⟨_,_,_,_,_,q,_⟩ := hm0;exact q
 obtain ⟨W0,hW⟩ : ∃ W0,w.alloc (mrO (r : Int) (r : Int) a n cap) = W0 := ⟨_,rfl⟩
 obtain ⟨b0,sz0⟩ := zJA w (mrO (r : Int) (r : Int) a n cap);rw [hW] at b0 sz0;have P1 : Hid (Cel W0 w.heap.size 24 (mrC (r : Int) (r : Int) a n cap)) := by unfold Hid;rw [← hW];exact Cel.new w _ _
 have x0 := P1.out.at (i := 0) rfl;have x1 := P1.out.at (i := 1) rfl;have x2 := P1.out.at (i := 2) rfl;have MX := hid (hm0.now b0);have G0 := hid b0;have EW := hid hW;have HKK := hid hK;obtain ⟨LL,hLL⟩ : ∃ LL,zHA p r r zs = LL := ⟨_,rfl⟩
 obtain ⟨S,hS⟩ : ∃ S,zUA p LL r = S := ⟨_,rfl⟩
 have HD : Hid (detN p r zs = if S.pv.length < r then 0 else S.f) := by unfold Hid detN;rw [hLL,hS]
 have HLL := hid hLL;have HSS := hid hS;have HRS : Hid (ResM p LL) := by unfold Hid;rw [← hLL];exact zZA (by omega)
 have HLN : Hid (LL.length = r) := by unfold Hid;rw [← hLL];exact zOA _ _ _ _
 obtain ⟨d,hd⟩ : ∃ d,detN p r zs = d := ⟨_,rfl⟩
 rw [hd] at HD ⊢;have HGD := hid hp;have NMZ : Hid (0 = zNA true true p) := by unfold Hid zNA;rw [HGD.out];rfl
 clear b0 sz0 hW h hm0 hK hLL hS hd hl hn hpr hp;go_enter Tryz.func22,Tryz.ntmps22;go_wp2_with fail;rw [EW.out];clear EW;have KB : Hid (∀ w',Below W0.heap.size W0 w' → w'.cell? ⟨w.heap.size,0,none⟩ = some (.int .i64 (r : Int)) ∧ w'.cell? ⟨w.heap.size,1,none⟩ = some (.int .i64 (r : Int)) ∧ w'.cell? ⟨w.heap.size,2,none⟩ = some (.slice a n cap)) := fun w' h => ⟨cnow h x0,cnow h x1,cnow h x2⟩
 refine zDA (fun w' => w'.cell? ⟨w.heap.size,0,none⟩ = some (.int .i64 (r : Int)) ∧ w'.cell? ⟨w.heap.size,1,none⟩ = some (.int .i64 (r : Int)) ∧ w'.cell? ⟨w.heap.size,2,none⟩ = some (.slice a n cap)) 5 (by kernel_rfl) ?_;obtain ⟨D1,hD⟩ : ∃ D1,W0.drew = D1 := ⟨_,rfl⟩
 have GB : Hid (Below W0.heap.size W0 D1) := by unfold Hid;rw [← hD];exact (Below.refl _ _).drew
 rw [hD];clear hD;refine zAA (i := 0) (oi := ⟨some 9,.load 24 (.tmp 2),24, "modp.go:21",#[],none⟩) (v := (.agg #[.int .i64 (r : Int),.int .i64 (r : Int),.slice a n cap])) rfl (by kernel_rfl) (fun _ _ _ h => h) (Or.inl ⟨by rfl,?_⟩) (KB.out _ GB.out) ?_
 ·intro w hSw;(try dsimp only at hSw);go_simp
 simp only [Act.put,sIb,sC0,sC1];refine zAA (i := 1) (oi := ⟨some 10,.load 24 (.tmp 2),24, "modp.go:21",#[],none⟩) (v := (.agg #[.int .i64 (r : Int),.int .i64 (r : Int),.slice a n cap])) rfl (by kernel_rfl) (fun _ _ _ h => h) (Or.inl ⟨by rfl,?_⟩) (KB.out _ GB.out) ?_
 ·intro w hSw;(try dsimp only at hSw);go_simp
 simp only [Act.put,sIb,sC0,sC1];refine zAA (i := 3) (oi := ⟨some 12,.move (.tmp 1),25, "modp.go:21",#[],none⟩) (v := (.int .u64 (p : Int))) rfl (by kernel_rfl) (fun _ _ _ h => h) (Or.inl ⟨by rfl,?_⟩) (KB.out _ GB.out) ?_
 ·intro w hSw;(try dsimp only at hSw);go_simp
 simp only [Act.put,sIb,sC0,sC1];refine zBA (i := 2) (o := ⟨some 11,.call { callee := .value (.func 48),args := #[.tmp 10],argTypes := #[24] },4, "modp.go:21",#[⟨1,.data⟩],none⟩) (by kernel_rfl) rfl (fun K hK => ?_);go_simp;go_at_call 48;refine (zMD).mono ?_;rintro e w2 ⟨rfl,b⟩;have lz2 := (show Below _ _ _ from b).size;replace GB := hid (below_step GB.out b);have hbq : ((r : Int) == (r : Int)) = true := by simp
 rw [hbq];clear b;refine hK.out _ _ (fun _ => KB.out _ GB.out) ?_;clear hK;refine zBA (i := 4) (o := ⟨some 13,.call { callee := .value (.func 29),args := #[.tmp 9,.tmp 11,.tmp 12],argTypes := #[24,4,25] },30, "modp.go:21",#[⟨0,.data⟩,⟨2,.data⟩,⟨3,.data⟩,⟨2,.chain⟩],none⟩) (by kernel_rfl) rfl (fun K hK => ?_);go_simp;go_at_call 29;refine (zJB (s := true) (f := true) (p := p) (MX.out.now GB.out).chk).mono ?_;rintro e w3 ⟨rfl,b⟩;have lz3 := (show Below _ _ _ from b).size;replace GB := hid (below_step GB.out b);rw [← NMZ.out];clear b;refine hK.out _ _ (fun _ => KB.out _ GB.out) ?_;clear hK;refine zBA (i := 5) (o := ⟨some 6,.assign (.tmp 13),30, "modp.go:21",#[⟨4,.data⟩,⟨4,.chain⟩,⟨0,.phase⟩,⟨1,.phase⟩,⟨2,.phase⟩,⟨3,.phase⟩,⟨4,.phase⟩],none⟩) (by kernel_rfl) rfl (fun K hK => ?_);go_simp;refine hK.out _ _ (fun h => absurd h (by decide)) ?_;clear hK
 try simp only [Act.put]
 refine zFA (by kernel_rfl) ?_ _;have x0' := cnow GB.out x0;have x1' := cnow GB.out x1;have x2' := cnow GB.out x2;have G1 := hid (below_step G0.out GB.out);have HSH := hid (zJC hp1 hp2 (MX.out.now GB.out) HKK.out);rw [HLL.out] at HSH;replace P1 := hid (P1.out.step GB.out);have HVL := hid P1.out.blk;clear x0 x1 x2 GB KB G0 MX;go_wp2_with fail;refine HSH.out.mono ?_;rintro e w8 ⟨lv,gs,rfl,hln,b8⟩;have HRD := hid (zeD hp1 hp2 hln HRS.out HLN.out hr (by omega) b8.size);replace P1 := hid (P1.out.step b8);have GR := hid (below_step G1.out b8);have LE8 := hid b8.size;obtain ⟨la,lcap,rfl,-,-⟩ := hln.form;clear HSH x0' x1' x2' hln b8 G1;go_wp2_with fail;refine HRD.out.mono ?_;rintro e w9 ⟨pvv,gs9,rfl,hpv,hln9,b9⟩;rw [HSS.out] at hpv ⊢;obtain ⟨pa,pcap,rfl,-⟩ := hpv.form;have G9 : Hid (Below w.heap.size w w9) := by
  unfold Hid;exact GR.out.trans (b9.1.mono (Nat.le_of_lt HVL.out))
 have y0 := (b9.1.cell (p := ⟨w.heap.size,0,none⟩) HVL.out).trans (P1.out.at (i := 0) rfl);clear HRD hpv hln9 b9 GR LE8 P1;generalize S.pv.length = k at *;generalize S.f = f at *
 by_cases hk : k < r
 ·have hk' : (k : Int) < (r : Int) := by omega
  have h1 := HD.out;rw [if_pos hk] at h1;subst h1;clear HD;go_wp2;go_ret2;exact ⟨rfl,G9.out⟩
 ·have hk' : ¬ (k : Int) < (r : Int) := by omega
  have h1 := HD.out;rw [if_neg hk] at h1;subst h1;clear HD;go_wp2;go_ret2;exact ⟨rfl,G9.out⟩
theorem of12 {n : Int} (h0 : 0 ≤ n) (h1 : n ≤ 18446744073709551615) (w : World) :
  Calls Tryz.prog 23 #[.int .u64 n] w fun e w' => ∃ r,e = .returned r ∧ Zi w' r n 1 ∧ Below w.heap.size w w' := by
 obtain ⟨WX,hWX⟩ : ∃ WX,(w.alloc (duo (.bool false) (.slice (some ⟨w.heap.size + 1,0,none⟩) 1 1))).alloc (.cells #[.int .u64 n] 25) = WX := ⟨_,rfl⟩
 obtain ⟨b0,sz0⟩ := zwA w (duo (.bool false) (.slice (some ⟨w.heap.size + 1,0,none⟩) 1 1)) (.cells #[.int .u64 n] 25);rw [hWX] at b0 sz0;have dX : Duo WX w.heap.size (.bool false) (.slice (some ⟨w.heap.size + 1,0,none⟩) 1 1) := by rw [← hWX];exact zCA (zEA rfl) _
 have sX : Sl WX.heap.size WX (.slice (some ⟨w.heap.size + 1,0,none⟩) 1 1) [n] := by
  have := zSC (w.alloc (duo (.bool false) (.slice (some ⟨w.heap.size + 1,0,none⟩) 1 1))) n ⟨h0,h1⟩;rw [hWX] at this
  simpa using this
 have eV : iv false [n] = n := by simp [iv,val]
 have FIN : Hid (Zi WX (.agg #[.bool false,.slice (some ⟨w.heap.size + 1,0,none⟩) 1 1]) n 1) := ⟨false,[n],_,_,rfl,sX,eV,by simp⟩
 have EW := hid hWX;have DX := hid dX;have BX := hid b0;clear sX dX eV b0 hWX;go_enter Tryz.func23,Tryz.ntmps23;go_wp2;rw [EW.out];exact bodyPost_ret (zNB Tryz.results23 DX.out _ (by rfl)) rfl ⟨_,rfl,FIN.out,BX.out⟩
theorem det_nine : detN 7 1 [9] = 2 := by decide
theorem blw_ten : blw 10 = 7 := by decide
theorem gd_seven : gdB 7 = true := by decide
theorem zCG (w : World) : Calls Tryz.prog 5 #[] w fun e w' => e = .returned (.bool true) ∧ Below w.heap.size w w' := by
 have HB := hid (below_any (w := w) (n := 10) (by omega));rw [blw_ten] at HB;have HO := hid (of12 (n := 9) (by omega) (by omega) w);go_enter Tryz.func5,Tryz.ntmps5;go_wp2_with fail;refine HB.out.mono ?_;rintro e w1 ⟨rfl,hw1⟩;have hw1' := hw1.symm;subst hw1';clear hw1 HB;go_wp2_with fail;refine HO.out.mono ?_;rintro e w2 ⟨r,rfl,hz,b2⟩;have hz0 := hz;obtain ⟨n2,x2,a2,c2,rfl,-,-,-⟩ := hz;obtain ⟨V,hV⟩ : ∃ V,w2.alloc (.cells #[.bool n2,.slice a2 x2.length c2] 43) = V := ⟨_,rfl⟩
 obtain ⟨bV,szV⟩ := zJA w2 (.cells #[.bool n2,.slice a2 x2.length c2] 43);rw [hV] at bV szV;have DV : Cel V w2.heap.size 43 [.bool n2,.slice a2 x2.length c2] := by rw [← hV];exact Cel.new w2 _ _
 have MX : Mx V (matv 1 1 (.slice (some ⟨w2.heap.size,0,none⟩) 1 1)) 1 1 [9] 1 := by
  refine ⟨_,[(.bool n2,.slice a2 x2.length c2)],rfl,⟨_,1,rfl,by simp,by simp,(fun q => by cases q),.inr ⟨w2.heap.size,0,rfl,Nat.zero_le _,DV.blk,fun j p hj => ?_⟩⟩,⟨rfl,fun j p z hp hz => ?_⟩,rfl,by omega,by omega⟩
  ·match j,hj with
   | 0,hj =>
    simp at hj;subst hj;exact ⟨DV.at (i := 0) rfl,DV.at (i := 1) rfl⟩
  ·match j,hp,hz with
   | 0,hp,hz =>
    simp at hp hz;subst hp hz;exact hz0.now bV
 have HD := hid (det12 gd_seven MX (by omega));rw [det_nine] at HD;have G := hid (below_step b2 bV);have EV := hid hV;clear HO hz0 b2 bV szV hV DV MX;go_wp2_with fail;rw [EV.out];refine HD.out.mono ?_;rintro e w3 ⟨rfl,b3⟩;have G3 := hid (below_step G.out b3);clear HD b3 EV;go_wp2;go_ret;exact ⟨rfl,G3.out⟩
end Go.Proofs.YtnfkibjoconphaaGreat
