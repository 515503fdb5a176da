/-
 QLw12ToCw12: Lw12, Sb12, Cw12, joined.
-/
import Derived.Test.YtnfkibjoconphaaGreatQChk9ToFn12
import Derived.Test.YtnfkibjoconphaaGreatQPure9ToWk12
import Derived.Test.YtnfkibjoconphaaGreatQFil9ToMat9
import Derived.Test.YtnfkibjoconphaaGreatQRd12
import Derived.Lib.AppendZeros
import Derived.Laws.AppendOwnNone

set_option maxRecDepth 100000
set_option maxHeartbeats 6400000
set_option linter.unusedVariables false
set_option linter.unusedSimpArgs false
namespace Go.Proofs.YtnfkibjoconphaaGreat
open Go.RowKit
theorem zVB {w : World} {v u : Value} {z y : Int} {k l : Nat} (h : Zc w v z k) (h' : Zc w u y l) (hzy : z = y) :
  Calls Tryz.prog 35 #[v,u] w fun e w' => e = .returned (.bool true) ∧ Below w.heap.size w w' := by
 subst hzy;obtain ⟨n,xs,a,c,rfl,s0,q0,e0,z0,k0⟩ := h;obtain ⟨m,ys,b,d,rfl,s1,q1,e1,z1,k1⟩ := h';obtain ⟨rfl,rfl⟩ := iv_one (z0.trans z1.symm) q0 q1 e0 e1;obtain ⟨W0,hW⟩ : ∃ W0,(w.alloc (duo (.bool n) (.slice a xs.length c))).alloc (duo (.bool n) (.slice b xs.length d)) = W0 := ⟨_,rfl⟩
 have b0 := (zwA w (duo (.bool n) (.slice a xs.length c)) (duo (.bool n) (.slice b xs.length d))).1;rw [hW] at b0;have P2 : Hid (Duo W0 w.heap.size (.bool n) (.slice a xs.length c)) := by unfold Hid;rw [← hW];exact (Duo.new w _ _).later (by simp) _
 have P3 : Hid (Duo W0 (w.heap.size + 1) (.bool n) (.slice b xs.length d)) := by
  unfold Hid;rw [← hW];have := Duo.new (w.alloc (duo (.bool n) (.slice a xs.length c))) (.bool n) (.slice b xs.length d)
  simpa using this
 have HC := hid (same_yes (s0.now b0) (s1.now b0) rfl);have B0 := hid b0;have x1 := P2.out.c1;have y1 := P3.out.c1;rw [← hW] at x1 y1;have EW := hid hW;have hq : (n == n) = true := by simp
 clear s0 s1 z0 z1 b0 q0 q1 e0 e1 hW;go_enter Tryz.func35,Tryz.ntmps35;go_wp2_with fail;rw [EW.out];refine HC.out.mono ?_;rintro e w1 ⟨rfl,b1⟩;have B1 := hid (below_step B0.out b1);have x0 := (P2.out.step b1).c0;have y0 := (P3.out.step b1).c0;clear b1 HC x1 y1 EW;go_wp2;go_ret;exact ⟨rfl,B1.out⟩
theorem zQC {w : World} {B B' k l : Nat} {va vb : Value} {ps qs : List (Value × Value)} {zs : List Int} (ha : Prs B w va ps) (hza : Zcs w ps zs k) (hb : Prs B' w vb qs) (hzb : Zcs w qs zs l) :
  Calls Tryz.prog 53 #[va,vb] w fun e w' => e = .returned (.bool true) ∧ Below w.heap.size w w' := by
 have A0 := hid ha;have B0 := hid hb;have ZA := hid hza;have ZB := hid hzb;obtain ⟨aa,ca,rfl,hca,hna,-,hfa⟩ := ha.form;obtain ⟨ab,cb,rfl,hcb,hnb,-,hfb⟩ := hb.form;obtain ⟨n,hn⟩ : ∃ n,zs.length = n := ⟨_,rfl⟩
 rw [hza.1,hn] at A0 hca hna ⊢;rw [hzb.1,hn] at B0 hcb hnb ⊢;have FA : Hid (n ≠ 0 → ∃ b off,aa = some ⟨b,off,none⟩) := fun h => by
  obtain ⟨b,off,e,-⟩ := hfa (fun e => h (by rw [← hn,← hza.1,e];rfl));exact ⟨b,off,e⟩
 have FB : Hid (n ≠ 0 → ∃ b off,ab = some ⟨b,off,none⟩) := fun h => by
  obtain ⟨b,off,e,-⟩ := hfb (fun e => h (by rw [← hn,← hzb.1,e];rfl));exact ⟨b,off,e⟩
 have HN := hid hn;have H0 : Hid (zOI w n n (.int .i64 0) w) := ⟨0,rfl,Nat.zero_le _,by omega,Below.refl _ _⟩
 have q0 : ((n : Int) != (n : Int)) = false := by simp
 clear ha hb hza hzb hfa hfb hn;go_enter Tryz.func53,Tryz.ntmps53;go_wp2_with fail
 go_loopg [5] n (fun gk s5 wx => zOI w n gk s5 wx)
 case atStart => exact H0.out
 case round =>
  clear H0;obtain ⟨i,rfl,hin,hg,hG⟩ := hrel;have G := hid hG;have HG := hid hg;clear hG hg
  by_cases hlt : i < n
  ·have hlt' : (i : Int) < (n : Int) := by omega
   obtain ⟨b1,o1,rfl⟩ := FA.out (by omega);obtain ⟨b2,o2,rfl⟩ := FB.out (by omega);obtain ⟨nf,xf,adf,qf,k0,k1,zf⟩ := Zcs.at9 (A0.out.now G.out) (ZA.out.now G.out) (i := i) (by rw [HN.out];exact hlt);obtain ⟨ng,xg,adg,qg,k2,k3,zg⟩ := Zcs.at9 (B0.out.now G.out) (ZB.out.now G.out) (i := i) (by rw [HN.out];exact hlt);have HS : Hid (∀ w',Below wr.heap.size wr w' → Calls Tryz.prog 35 #[.agg #[.bool nf,.slice adf xf.length qf],.agg #[.bool ng,.slice adg xg.length qg]] w' fun e w'' => e = .returned (.bool true) ∧ Below w'.heap.size w' w'') := fun w' h => zVB (zf.now h) (zg.now h) rfl
   clear zf zg;have hw := zmA (i := i) (by omega);go_wp2_with fail;have KB : Hid (∀ w',Below wr.heap.size wr w' → w'.cell? ⟨b1,o1 + i * 2,none⟩ = some (.bool nf) ∧ w'.cell? ⟨b1,o1 + i * 2 + 1,none⟩ = some (.slice adf xf.length qf) ∧ w'.cell? ⟨b2,o2 + i * 2,none⟩ = some (.bool ng) ∧ w'.cell? ⟨b2,o2 + i * 2 + 1,none⟩ = some (.slice adg xg.length qg)) := fun w' h => ⟨cnow h k0,cnow h k1,cnow h k2,cnow h k3⟩
   refine zDA (fun w' => w'.cell? ⟨b1,o1 + i * 2,none⟩ = some (.bool nf) ∧ w'.cell? ⟨b1,o1 + i * 2 + 1,none⟩ = some (.slice adf xf.length qf) ∧ w'.cell? ⟨b2,o2 + i * 2,none⟩ = some (.bool ng) ∧ w'.cell? ⟨b2,o2 + i * 2 + 1,none⟩ = some (.slice adg xg.length qg)) 9 (by kernel_rfl) ?_;obtain ⟨D1,hD⟩ : ∃ D1,wr.drew = D1 := ⟨_,rfl⟩
   have GB : Hid (Below wr.heap.size wr D1) := by unfold Hid;rw [← hD];exact (Below.refl _ _).drew
   rw [hD];clear hD;refine zAA (i := 0) (oi := ⟨some 18,.move (.tmp 0),22, "law.go:105",#[],none⟩) (v := (.slice (some ⟨b1,o1,none⟩) n ca)) rfl (by kernel_rfl) (fun _ _ _ h => h) (Or.inl ⟨by rfl,?_⟩) (KB.out _ GB.out) ?_
   ·intro w hSw;(try dsimp only at hSw);go_simp
   simp only [Act.put,sIb,sC0,sC1];refine zAA (i := 1) (oi := ⟨some 19,.move (.tmp 5),3, "law.go:105",#[],none⟩) (v := (.int .i64 (i : Int))) rfl (by kernel_rfl) (fun _ _ _ h => h) (Or.inl ⟨by rfl,?_⟩) (KB.out _ GB.out) ?_
   ·intro w hSw;(try dsimp only at hSw);go_simp
   simp only [Act.put,sIb,sC0,sC1];refine zAA (i := 2) (oi := ⟨some 20,.indexAddr 22 (.tmp 18) (.tmp 19),0, "law.go:105",#[⟨0,.data⟩,⟨1,.data⟩],none⟩) (v := (.pointer (some ⟨b1,o1 + i * 2,none⟩))) rfl (by kernel_rfl) (fun _ _ _ h => h) (Or.inl ⟨by rfl,?_⟩) (KB.out _ GB.out) ?_
   ·intro w hSw;(try dsimp only at hSw);go_simp
   simp only [Act.put,sIb,sC0,sC1];refine zAA (i := 3) (oi := ⟨some 21,.load 43 (.tmp 20),43, "law.go:105",#[⟨2,.data⟩],none⟩) (v := (.agg #[.bool nf,.slice adf xf.length qf])) rfl (by kernel_rfl) (fun _ _ _ h => h) (Or.inl ⟨by rfl,?_⟩) (KB.out _ GB.out) ?_
   ·intro w hSw;(try dsimp only at hSw);go_simp
   simp only [Act.put,sIb,sC0,sC1];refine zAA (i := 4) (oi := ⟨some 22,.move (.tmp 1),22, "law.go:105",#[],none⟩) (v := (.slice (some ⟨b2,o2,none⟩) n cb)) rfl (by kernel_rfl) (fun _ _ _ h => h) (Or.inl ⟨by rfl,?_⟩) (KB.out _ GB.out) ?_
   ·intro w hSw;(try dsimp only at hSw);go_simp
   simp only [Act.put,sIb,sC0,sC1];refine zAA (i := 5) (oi := ⟨some 23,.move (.tmp 5),3, "law.go:105",#[],none⟩) (v := (.int .i64 (i : Int))) rfl (by kernel_rfl) (fun _ _ _ h => h) (Or.inl ⟨by rfl,?_⟩) (KB.out _ GB.out) ?_
   ·intro w hSw;(try dsimp only at hSw);go_simp
   simp only [Act.put,sIb,sC0,sC1];refine zAA (i := 6) (oi := ⟨some 24,.indexAddr 22 (.tmp 22) (.tmp 23),0, "law.go:105",#[⟨4,.data⟩,⟨5,.data⟩],none⟩) (v := (.pointer (some ⟨b2,o2 + i * 2,none⟩))) rfl (by kernel_rfl) (fun _ _ _ h => h) (Or.inl ⟨by rfl,?_⟩) (KB.out _ GB.out) ?_
   ·intro w hSw;(try dsimp only at hSw);go_simp
   simp only [Act.put,sIb,sC0,sC1];refine zAA (i := 7) (oi := ⟨some 25,.load 43 (.tmp 24),43, "law.go:105",#[⟨6,.data⟩],none⟩) (v := (.agg #[.bool ng,.slice adg xg.length qg])) rfl (by kernel_rfl) (fun _ _ _ h => h) (Or.inl ⟨by rfl,?_⟩) (KB.out _ GB.out) ?_
   ·intro w hSw;(try dsimp only at hSw);go_simp
   simp only [Act.put,sIb,sC0,sC1];refine zBA (i := 8) (o := ⟨some 26,.call { callee := .value (.func 35),args := #[.tmp 21,.tmp 25],argTypes := #[43,43] },4, "law.go:105",#[⟨3,.data⟩,⟨7,.data⟩],none⟩) (by kernel_rfl) rfl (fun K hK => ?_);go_simp;go_at_call 35;refine (HS.out _ GB.out).mono ?_;rintro e w2 ⟨rfl,b⟩;have lz2 := (show Below _ _ _ from b).size;replace GB := hid (below_step GB.out b);have G1 := hid (below_step G.out GB.out);clear b;refine hK.out _ _ (fun _ => KB.out _ GB.out) ?_;clear hK;refine zBA (i := 9) (o := ⟨some 6,.assign (.tmp 26),4, "law.go:105",#[⟨8,.data⟩,⟨8,.chain⟩,⟨0,.phase⟩,⟨1,.phase⟩,⟨2,.phase⟩,⟨3,.phase⟩,⟨4,.phase⟩,⟨5,.phase⟩,⟨6,.phase⟩,⟨7,.phase⟩,⟨8,.phase⟩],none⟩) (by kernel_rfl) rfl (fun K hK => ?_);go_simp;refine hK.out _ _ (fun h => absurd h (by decide)) ?_;clear hK
   try simp only [Act.put]
   refine zFA (by kernel_rfl) ?_ _;have HN1 : Hid (zOI w n (n - (i + 1)) (.int .i64 ((i + 1 : Nat) : Int)) w2) := ⟨i + 1,rfl,by omega,rfl,G1.out⟩
   have HMM : Hid (n - (i + 1) < gk) := by unfold Hid;rw [HG.out];omega
   clear HS G HG G1 GB KB;go_wp2_with fail;go_roundg (n - (i + 1))
   case rel => exact HN1.out
   case measure => exact HMM.out
  ·have hlt' : ¬ (i : Int) < (n : Int) := by omega
   clear HG;go_wp2;go_ret;exact ⟨rfl,G.out⟩
theorem alikeMats12_yes {w : World} {va vb : Value} {r c k l : Nat} {zs ys : List Int} (ha : Mc w va r c zs k) (hb : Mc w vb r c ys l) (he : zs = ys) :
  Calls Tryz.prog 52 #[va,vb] w fun e w' => e = .returned (.bool true) ∧ Below w.heap.size w w' := by
 subst he;obtain ⟨ata,pa,rfl,pa1,pa2,-,-,-⟩ := ha;obtain ⟨atb,pb,rfl,pb1,pb2,-,-,-⟩ := hb;obtain ⟨W0,hW⟩ : ∃ W0,(w.alloc (matO r c ata)).alloc (matO r c atb) = W0 := ⟨_,rfl⟩
 obtain ⟨b0,sz0⟩ := zwA w (matO r c ata) (matO r c atb);rw [hW] at b0;have qa : Cel W0 w.heap.size 24 (matc r c ata) := by
  rw [← hW];exact (Cel.new w 24 (matc r c ata)).step ((Below.refl _ _).alloc (Nat.le_refl _) _)
 have qb : Cel W0 (w.heap.size + 1) 24 (matc r c atb) := by
  rw [← hW];have := Cel.new (w.alloc (matO r c ata)) 24 (matc r c atb)
  simpa using this
 have HS := hid (zQC (pa1.now b0) (pa2.now b0) (pb1.now b0) (pb2.now b0));obtain ⟨aa,ca,rfl,-,-,-,-⟩ := pa1.form;obtain ⟨ab,cb,rfl,-,-,-,-⟩ := pb1.form;have x2 := qa.at (i := 2) rfl;have y2 := qb.at (i := 2) rfl;rw [← hW] at x2 y2;have QA := hid qa;have QB := hid qb;have q0 : ((r : Int) == (r : Int)) = true := by simp
 have q1 : ((c : Int) == (c : Int)) = true := by simp
 have G0 := hid b0;have EW := hid hW;clear b0 sz0 hW qa qb pa1 pa2 pb1 pb2;go_enter Tryz.func52,Tryz.ntmps52;go_wp2_with fail;rw [EW.out];refine HS.out.mono ?_;rintro e w1 ⟨rfl,b⟩;have x0 := (QA.out.step b).at (i := 0) rfl;have x1 := (QA.out.step b).at (i := 1) rfl;have y0 := (QB.out.step b).at (i := 0) rfl;have y1 := (QB.out.step b).at (i := 1) rfl;have G1 := hid (below_step G0.out b);clear b HS x2 y2 EW QA QB;go_wp2;go_ret;exact ⟨rfl,G1.out⟩
theorem sound12 {w : World} {r c : Int} {a : Option Addr} {l cap : Nat} (hl : l ≤ 1048576) : Calls Tryz.prog 6 #[.agg #[.int .i64 r,.int .i64 c,.slice a l cap]] w (zkC w r c l) := by
 have b0 := (alo1 w (.cells #[.int .i64 r,.int .i64 c,.slice a l cap] 24)).1;have P1 := Cel.new w 24 [.int .i64 r,.int .i64 c,.slice a l cap];have x0 := P1.at (i := 0) rfl;have x1 := P1.at (i := 1) rfl;have x2 := P1.at (i := 2) rfl;have G0 := hid b0;clear b0 P1
 by_cases h1 : 0 ≤ r
 case neg =>
  have FIN : Hid (zkC w r c l (.returned (.bool false)) (w.alloc (.cells #[.int .i64 r,.int .i64 c,.slice a l cap] 24))) := ⟨false,rfl,⟨(fun e => by cases e),(fun e => by unfold Snd at e;omega)⟩,G0.out⟩
  go_enter Tryz.func6,Tryz.ntmps6;go_wp2;go_ret;exact FIN.out
 by_cases h2 : r ≤ 64
 case neg =>
  have FIN : Hid (zkC w r c l (.returned (.bool false)) (w.alloc (.cells #[.int .i64 r,.int .i64 c,.slice a l cap] 24))) := ⟨false,rfl,⟨(fun e => by cases e),(fun e => by unfold Snd at e;omega)⟩,G0.out⟩
  go_enter Tryz.func6,Tryz.ntmps6;go_wp2;go_ret;exact FIN.out
 by_cases h3 : 0 ≤ c
 case neg =>
  have FIN : Hid (zkC w r c l (.returned (.bool false)) (w.alloc (.cells #[.int .i64 r,.int .i64 c,.slice a l cap] 24))) := ⟨false,rfl,⟨(fun e => by cases e),(fun e => by unfold Snd at e;omega)⟩,G0.out⟩
  go_enter Tryz.func6,Tryz.ntmps6;go_wp2;go_ret;exact FIN.out
 by_cases h4 : c ≤ 64
 case neg =>
  have FIN : Hid (zkC w r c l (.returned (.bool false)) (w.alloc (.cells #[.int .i64 r,.int .i64 c,.slice a l cap] 24))) := ⟨false,rfl,⟨(fun e => by cases e),(fun e => by unfold Snd at e;omega)⟩,G0.out⟩
  go_enter Tryz.func6,Tryz.ntmps6;go_wp2;go_ret;exact FIN.out
 have hm : 0 ≤ r * c ∧ r * c ≤ 64 * 64 := ⟨Int.mul_nonneg h1 h3,Int.mul_le_mul h2 h4 h3 (by omega)⟩
 have hw : IntKind.i64.wrap (r * c) = r * c := by rw [zPA] <;> omega
 obtain ⟨q,hq⟩ : ∃ q,r * c = q := ⟨_,rfl⟩
 have HQ := hid hq;replace hw : IntKind.i64.wrap (r * c) = q := hw.trans hq;have hw2 := hw;rw [IntKind.wrap_i64] at hw2;rw [hq] at hm
 by_cases h5 : (l : Int) = q
 case neg =>
  have h6 : ((l : Int) == q) = false := by simpa using h5
  have FIN : Hid (zkC w r c l (.returned (.bool false)) (w.alloc (.cells #[.int .i64 r,.int .i64 c,.slice a l cap] 24))) := ⟨false,rfl,⟨(fun e => by cases e),(fun e => by unfold Snd at e;rw [HQ.out] at e;exact absurd e.2.2.2.2 h5)⟩,G0.out⟩
  clear hq;go_enter Tryz.func6,Tryz.ntmps6;go_wp2;go_ret;exact FIN.out
 case pos =>
  have h6 : ((l : Int) == q) = true := by simpa using h5
  have FIN : Hid (zkC w r c l (.returned (.bool true)) (w.alloc (.cells #[.int .i64 r,.int .i64 c,.slice a l cap] 24))) := ⟨true,rfl,⟨fun _ => ⟨h1,h2,h3,h4,h5.trans HQ.out.symm⟩,fun _ => rfl⟩,G0.out⟩
  clear hq;go_enter Tryz.func6,Tryz.ntmps6;go_wp2;go_ret;exact FIN.out
theorem zFE {w : World} {p : Nat} : Calls Tryz.prog 7 #[.int .u64 (p : Int)] w fun e w' => e = .returned (.bool (gdB p)) ∧ w' = w := by
 by_cases h : p < 2 ∨ 2147483648 ≤ p
 ·have e : gdB p = false := by
   unfold gdB;rcases h with h | h
   ·rw [zKC (fun q => by have := q.1;omega)];simp
   ·simp;omega
  rw [e];exact lawPrime_no h
 ·have e : gdB p = prB p := by unfold gdB;simp [show p < 2147483648 by omega]
  rw [e];exact lawPrime_any (by omega) (by omega)
theorem zyD {w : World} {r c : Int} {a : Option Addr} {l cap : Nat} {s : Bool} (hl : l ≤ 1048576) (hs : s = true ↔ Snd r c l) : Calls Tryz.prog 6 #[mrV r c a l cap] w fun e w' => e = .returned (.bool s) ∧ Below w.heap.size w w' := by
 refine (sound12 hl).mono ?_;rintro e w' ⟨b,rfl,hb,bb⟩;have : b = s := by
  rcases Bool.eq_false_or_eq_true s with q | q
  ·rw [q,hb];exact hs.1 q
  ·rw [q]
   rcases Bool.eq_false_or_eq_true b with q2 | q2
   ·have := hs.2 (hb.1 q2);rw [q] at this;cases this
   ·exact q2
 subst this;exact ⟨rfl,bb⟩
def Sw (w : World) (u : Value) (xs : List Int) : Prop := ∃ b off cap,u = .slice (some ⟨b,off,none⟩) xs.length cap ∧ xs.length ≤ cap ∧ b < w.heap.size ∧ ∀ j (h : j < xs.length),w.cell? ⟨b,off + j,none⟩ = some (.int .u64 xs[j])
theorem Sw.now {w w' : World} {u : Value} {xs : List Int} (h : Sw w u xs) (hb : Below w.heap.size w w') : Sw w' u xs := by
 obtain ⟨b,off,cap,h1,h2,h3,h4⟩ := h;exact ⟨b,off,cap,h1,h2,Nat.lt_of_lt_of_le h3 hb.size,fun j hj => (hb.cell (p := ⟨b,off + j,none⟩) h3).trans (h4 j hj)⟩
theorem Row.sw {w : World} {g : Nat} {xs : List Int} {r : List Value} (h : Row w g (ws xs ++ r)) {cap : Nat} (hc : xs.length ≤ cap) : Sw w (.slice (some ⟨g,0,none⟩) xs.length cap) xs := ⟨g,0,cap,rfl,hc,h.lt,fun j hj => by rw [Nat.zero_add];exact h.word hj⟩
def Rdl (w : World) (v : Value) (ls : List (List Int)) : Prop :=
 ∃ a c,v = .slice a ls.length c ∧ ls.length ≤ c ∧ ls.length ≤ 1048576 ∧ (ls = [] ∨ ∃ b off,a = some ⟨b,off,none⟩ ∧ b < w.heap.size ∧ ∀ (j : Nat) (xs : List Int),ls[j]? = some xs → ∃ u,w.cell? ⟨b,off + j,none⟩ = some u ∧ Sw w u xs)
theorem Rdl.now {w w' : World} {v : Value} {ls : List (List Int)} (h : Rdl w v ls) (hb : Below w.heap.size w w') : Rdl w' v ls := by
 obtain ⟨a,c,h1,h2,h3,h4⟩ := h;refine ⟨a,c,h1,h2,h3,?_⟩;rcases h4 with h4 | ⟨b,off,h5,h6,h7⟩
 ·exact .inl h4
 ·refine .inr ⟨b,off,h5,Nat.lt_of_lt_of_le h6 hb.size,fun j xs hp => ?_⟩
  obtain ⟨u,q1,q2⟩ := h7 j xs hp;exact ⟨u,(hb.cell (p := ⟨b,off + j,none⟩) h6).trans q1,q2.now hb⟩
theorem Rdl.form {w : World} {v : Value} {ls : List (List Int)} (h : Rdl w v ls) : ∃ a c,v = .slice a ls.length c ∧ ls.length ≤ c ∧ ls.length ≤ 1048576 ∧ (ls ≠ [] → ∃ b off,a = some ⟨b,off,none⟩) := by
 obtain ⟨a,c,h1,h2,h3,h4⟩ := h;refine ⟨a,c,h1,h2,h3,fun hne => ?_⟩;rcases h4 with h4 | ⟨b,off,h5,h6,h7⟩
 ·exact absurd h4 hne
 ·exact ⟨b,off,h5⟩
theorem Rdl.at {w : World} {b off l c : Nat} {ls : List (List Int)} (h : Rdl w (.slice (some ⟨b,off,none⟩) l c) ls) {i : Nat} {xs : List Int} (hi : ls[i]? = some xs) : ∃ u,w.cell? ⟨b,off + i,none⟩ = some u ∧ Sw w u xs := by
 obtain ⟨a',c',h1,h2,h3,h4⟩ := h;rcases h4 with h4 | ⟨b',off',h5,h6,h7⟩
 ·subst h4;simp at hi
 ·simp only [Value.slice.injEq] at h1
  obtain ⟨rfl,-,-⟩ := h1;simp only [Option.some.injEq,Addr.mk.injEq,and_true] at h5;obtain ⟨rfl,rfl⟩ := h5;exact h7 i xs hi
def OwnW (B : Nat) (w : World) (v : Value) (xs : List Int) : Prop := w.ownsRow B 25 1 v xs.length (ws xs)
theorem wpList_append_ow (w : World) {ops : Array Oper} {rest : List Oper} {o : Oper} {a : Act} {Q : Exit → Act → World → Prop}
  (hgd : o.guard = none) (s x : Operand) (hop : o.op = .call { callee := .builtin .append,args := #[s,x],argTypes := #[41,41] })
  (B : Nat) (v u : Value) (ps qs : List Int) (hs : a.eval s = v) (hB : OwnW B w v ps) (hx : a.eval x = u) (hu : Sw w u qs) (hlen : ps.length + qs.length ≤ 2097152) (hBs : B ≤ w.heap.size)
  (hK : ∀ v' w',Hid (OwnW B w' v' (ps ++ qs)) → Hid (w.grownBy w' v.ownBlock) → wpList Tryz.prog ops Q rest (a.put o.dst v') w') :
  wpList Tryz.prog ops Q (o :: rest) a w := by
 obtain ⟨i,hii,hz,hsz,hby⟩ := info_parts Tryz.infoW;obtain ⟨b,off,cu,rfl,hcu,hbs,hc⟩ := hu;refine wpList_plain hgd fun K hK' => ?_
 have hnews : ∀ j y,(ws qs)[j]? = some y → w.cell? ((⟨b,off,none⟩ : Addr).add j) = some y := fun j y hj => by
  have hjl := (List.getElem?_eq_some_iff.1 hj).1;have hjl' : j < qs.length := by simpa [ws] using hjl
  have ea : ∀ j,(⟨b,off,none⟩ : Addr).add j = ⟨b,off + j,none⟩ := fun j => by unfold Addr.add;split <;> simp_all
  rw [ea,hc j hjl',← hj];simp [ws,hjl']
 obtain ⟨v',w',hr,k1,k2,-,-⟩ := run_append_own_at (P := Tryz.prog) w B 41 o.type 25 i (.int .u64 0) 1 8 Tryz.underlying41 hii hz hsz hby rfl (by omega) v ps.length (ws ps) hB ⟨b,off,none⟩ qs.length cu (ws qs) (by simp [ws]) hnews (fun y hy => by obtain ⟨z,-,rfl⟩ := List.mem_map.1 hy;rfl) (by unfold maxLen;omega) (by omega) hBs;unfold Oper.wp execOp;simp only [hop,resolve,invoke,builtin,Sem.run_bind,Sem.run_pure,Result.andThen_ok,List.map_toArray,List.map_cons,List.map_nil,hs,hx,hr];refine hK' _ _ (hK v' w' ?_ k2);unfold Hid OwnW ws;rw [List.map_append,List.length_append];exact k1
def zPI (w : World) (e : Ending) (w' : World) : Prop := ∃ v,e = .returned v ∧ w'.ownsRow w.heap.size 25 1 v 0 [] ∧ Below w.heap.size w w'
theorem growW_any {w : World} {N : Nat} (hN : N ≤ 1048576) : Calls Tryz.prog 76 #[.slice none 0 0,.int .i64 (N : Int)] w (zPI w) := by
 have w0 : IntKind.i64.wrap (N : Int) = (N : Int) := by rw [zPA] <;> omega
 have w1 : ¬ ((N : Int) < 0) := by omega
 by_cases h0 : N = 0
 ·subst h0
  have FIN : Hid (zPI w (.returned (.slice none 0 0)) w) := ⟨_,rfl,World.ownsRow_nil _ _ _ _,Below.refl _ _⟩
  go_enter Tryz.func76,Tryz.ntmps76;go_wp2;go_ret;exact FIN.out
 ·obtain ⟨i,hii,hz,hsz,hby⟩ := info_parts Tryz.infoW
  have hrz := fun wx : World => Lib.run_append_nil_zeros (P := Tryz.prog) wx 41 3 41 25 i (.int .u64 0) .i64 .i64 Tryz.underlying41 Tryz.underlying3 hii hz N (by omega) (by omega) (by omega) (by rw [hby];omega)
  have w2 : (0 : Int) < (N : Int) := by omega
  have hge := grownCap_ge w N 0 25;have hle := grownCap_le_maxLen w N 0 25 (by unfold maxLen;omega);have FIN : Hid (zPI w (.returned (.slice (some ⟨w.heap.size,0,none⟩) 0 (grownCap w N 0 25))) (w.drew.alloc (.cells (Builtin.zeroCells (Value.int .u64 0).cells N ++ Builtin.zeroCells (Value.int .u64 0).cells (grownCap w N 0 25 - N)) 25))) := by
   refine ⟨_,rfl,World.ownsRow_made (base := w.heap.size) (size := 1) w.drew _ _ (Nat.le_refl _) hle ?_,((Below.refl _ _).drew).alloc (Nat.le_refl _) _⟩;rw [Array.size_append,size_zeroCells,size_zeroCells];have : (Value.int IntKind.u64 0).cells.size = 1 := rfl;rw [this];omega
  go_enter Tryz.func76,Tryz.ntmps76;go_wp2_with (at_builtin;refine Lib.wpList_append_run _ rfl _ _ _ _ rfl _ _ rfl rfl _ _ (hrz _) ?_)
  go_wp2;go_ret;exact FIN.out
def zQI (w : World) (n : Nat) (ls : List (List Int)) (gk : Nat) (s6 s27 : Value) (wx : World) : Prop := ∃ i : Nat,s27 = .int .i64 (i : Int) ∧ i ≤ n ∧ gk = n - i ∧ OwnW w.heap.size wx s6 (ls.take i).flatten ∧ Below w.heap.size w wx
def zTG (w : World) (xs : List Int) (e : Ending) (w' : World) : Prop := ∃ v,e = .returned v ∧ OwnW w.heap.size w' v xs ∧ Below w.heap.size w w'
theorem grown_belowW {w0 w w' : World} {v : Value} {n : Nat} {xs : List Value} (hb : Below w0.heap.size w0 w) (h : w.ownsRow w0.heap.size 25 1 v n xs) (hg : w.grownBy w' v.ownBlock) : Below w0.heap.size w0 w' := by
 refine hb.trans ⟨hg.os,hg.tape,hg.output,hg.size,fun b hb' => hg.block b (Nat.lt_of_lt_of_le hb' hb.size) (fun e => ?_)⟩;have := (World.ownsRow.lt h b e.symm).1;omega
theorem concatW_any {w : World} {m : Nat} {v : Value} {ls : List (List Int)} (hv : Rdl w v ls) (hm : WidE m ls) (hl : ls.length * m ≤ 1048576) (hm1 : m ≤ 1048576) :
  Calls Tryz.prog 59 #[v] w (zTG w ls.flatten) := by
 have V0 := hid hv;have HM := hid hm;obtain ⟨a0,c0,rfl,hc0,hn0,hf0⟩ := hv.form;have HT := hid (fun i (hi : i ≤ ls.length) => zUF (pss := ls) (fun ps hp => hm ps hp) i hi);have HFL : Hid (ls.flatten = (ls.take ls.length).flatten) := by unfold Hid;rw [List.take_length]
 obtain ⟨FT,hFT⟩ : ∃ FT,ls.flatten = FT := ⟨_,rfl⟩
 rw [hFT] at HFL ⊢;obtain ⟨n,hn⟩ : ∃ n,ls.length = n := ⟨_,rfl⟩
 rw [hn] at V0 hc0 hn0 hl HFL HT ⊢;have HN := hid hn;have F0 := hid hf0;clear hv hm hf0 hn hFT;have H0 : Hid (CatA w n m n (.int .i64 0) (.int .i64 0) w) := ⟨0,by simp,rfl,Nat.zero_le _,by omega,rfl⟩
 go_enter Tryz.func59,Tryz.ntmps59;go_wp2_with fail
 go_loopg [3,11] n (fun gk s3 s11 wx => CatA w n m gk s3 s11 wx)
 case atStart => exact H0.out
 case round =>
  clear H0;obtain ⟨i,rfl,rfl,hin,hg,hwx⟩ := hrel;have hwx' := hwx.symm;subst hwx';clear hwx;have HG := hid hg;clear hg;have him : i * m ≤ n * m := Nat.mul_le_mul_right m hin
  by_cases hlt : i < n
  ·have hlt' : (i : Int) < (n : Int) := by omega
   obtain ⟨b1,o1,rfl⟩ := F0.out (fun e => by have := HN.out;rw [e] at this;simp at this;omega);obtain ⟨u,k0,pu⟩ := V0.out.at (i := i) (List.getElem?_eq_getElem (by rw [HN.out];exact hlt));obtain ⟨bu,ou,cu,hu,-,-,-⟩ := pu;rw [HM.out _ (List.getElem_mem (l := ls) (n := i) (by rw [HN.out];exact hlt))] at hu;subst hu;have hw := zmA (i := i) (by omega);have e2 : (i + 1) * m = i * m + m := by rw [Nat.add_mul,Nat.one_mul]
   have e3 : (i + 1) * m ≤ n * m := Nat.mul_le_mul_right m hlt;have HN1 : Hid (∀ lo : Nat,lo = i * m → CatA w n m (n - (i + 1)) (.int .i64 ((lo : Int) + (m : Int))) (.int .i64 ((i + 1 : Nat) : Int)) w) := fun lo hlo => ⟨i + 1,by rw [e2,hlo];congr 1,rfl,by omega,rfl,rfl⟩
   have HMM : Hid (n - (i + 1) < gk) := by unfold Hid;rw [HG.out];omega
   obtain ⟨lo,hlo⟩ : ∃ lo,i * m = lo := ⟨_,rfl⟩
   have HR := hid (HN1.out lo hlo.symm);have hs : IntKind.i64.wrap ((lo : Int) + (m : Int)) = (lo : Int) + (m : Int) := by rw [zPA] <;> omega
   have hs' : ¬ ((lo : Int) + (m : Int) < 0) := by omega
   rw [hlo];clear HN1 HG e2 e3 hlo him;go_wp2_with fail;go_roundg (n - (i + 1))
   case rel => exact HR.out
   case measure => exact HMM.out
  ·have hlt' : ¬ (i : Int) < (n : Int) := by omega
   obtain rfl : i = n := by omega
   have HS := hid (growW_any (w := w) (N := i * m) hl);have HNN := hid hl;clear him hl;obtain ⟨N,hNN⟩ : ∃ N,i * m = N := ⟨_,rfl⟩
   rw [hNN] at HS ⊢;clear HG hNN;go_wp2_with fail;refine HS.out.mono ?_;rintro e w1 ⟨v,rfl,ho,b⟩;have H1 : Hid (zQI w i ls i v (.int .i64 0) w1) := ⟨0,rfl,Nat.zero_le _,by omega,by simpa [OwnW,ws] using ho,b⟩
   clear HS ho b;go_wp2_with fail
   go_loopg [6,27] i (fun gk s6 s27 wx => zQI w i ls gk s6 s27 wx)
   case atStart => exact H1.out
   case round =>
    clear H1;obtain ⟨j,rfl,hjn,hg,ho,hG⟩ := hrel;have OW := hid ho;have G := hid hG;have HG := hid hg;clear ho hG hg
    by_cases hlt2 : j < i
    ·have hlt2' : (j : Int) < (i : Int) := by omega
     obtain ⟨b1,o1,rfl⟩ := F0.out (fun e => by have := HN.out;rw [e] at this;simp at this;omega);obtain ⟨u,k0,pu⟩ := (V0.out.now G.out).at (i := j) (List.getElem?_eq_getElem (by rw [HN.out];exact hlt2));have hpj : ls[j]? = some (ls[j]'(by rw [HN.out];exact hlt2)) := List.getElem?_eq_getElem (by rw [HN.out];exact hlt2);have HTS := hid (take_flat_succ hpj);obtain ⟨ps,hps⟩ : ∃ ps,ls[j]'(by rw [HN.out];exact hlt2) = ps := ⟨_,rfl⟩
     rw [hps] at pu HTS;have HLN : Hid ((ls.take j).flatten.length + ps.length ≤ 2097152) := by
      unfold Hid;have := HT.out (j + 1) (by omega);rw [HTS.out,List.length_append] at this;have h2 : (j + 1) * m ≤ i * m := Nat.mul_le_mul_right m hlt2;have h3 := HNN.out;omega
     have PU := hid pu;obtain ⟨bu,ou,cu,rfl,-,-,-⟩ := pu;have hw := zmA (i := j) (by omega);clear hpj hps;go_wp2_with (at_builtin;refine wpList_append_ow _ rfl (.tmp 31) (.tmp 32) rfl w.heap.size _ _ (ls.take j).flatten ps rfl OW.out rfl PU.out HLN.out G.out.size ?_)
     intro v2 w2 ho2 hg2;have HN1 : Hid (zQI w i ls (i - (j + 1)) v2 (.int .i64 ((j + 1 : Nat) : Int)) w2) := ⟨j + 1,rfl,by omega,rfl,by rw [HTS.out];exact ho2.out,grown_belowW G.out OW.out hg2.out⟩
     have HMM : Hid (i - (j + 1) < gk) := by unfold Hid;rw [HG.out];omega
     clear OW G HG ho2 hg2 HTS HLN PU k0;go_wp2_with fail;go_roundg (i - (j + 1))
     case rel => exact HN1.out
     case measure => exact HMM.out
    ·have hlt2' : ¬ (j : Int) < (i : Int) := by omega
     obtain rfl : j = i := by omega
     rw [← HFL.out] at OW;have FIN : Hid (∀ v6,OwnW w.heap.size wr v6 FT → zTG w FT (.returned v6) wr) := fun v6 h => ⟨v6,rfl,h,G.out⟩
     have FIN2 := hid (FIN.out _ OW.out);clear FIN OW G HG;go_wp2;go_ret;exact FIN2.out
end Go.Proofs.YtnfkibjoconphaaGreat
