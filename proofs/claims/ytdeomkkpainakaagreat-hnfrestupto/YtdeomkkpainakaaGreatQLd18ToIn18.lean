/-
 QLd18ToIn18: Ld18, In18, joined.
-/
import Derived.Test.YtdeomkkpainakaaGreatQLp18
import Derived.Test.YtdeomkkpainakaaGreatQTailLToTo18
import Derived.Test.YtdeomkkpainakaaGreatQSt18ToHa18
import Derived.Laws.CopyRow
import Derived.Lib.AppendZerosOnto
import Derived.Lib.Overlaps

set_option maxRecDepth 100000
set_option maxHeartbeats 6400000
set_option linter.unusedVariables false
set_option linter.unusedSimpArgs false
namespace Go.Proofs.YtdeomkkpainakaaGreat
open Go.RowKit
def zPI (w : World) (r : Nat) (A0 : List Value) (gk : Nat) (s : Value) (wx : World) : Prop := ∃ i : Nat,s = .int .i64 (i : Int) ∧ i ≤ r ∧ gk = r - i ∧ zQH w A0 wx
theorem lreduced18 {w : World} {v lv : Value} {m n k r kw B gR : Nat} {γ : Nat → Nat} {zs : List Int} {F : Nat → Int} (h : Mx w v m n zs k) (hk : k ≤ 1099511627776) (hkw : kw ≤ 1099511627776) (hI : Ivs B w lv (zmA γ r)) (hrm : r ≤ m) (hγ : ∀ i,i < r → γ i < n)
  (hF : Rw17 w gR n F kw) (hred : ∀ i,i < r → 0 ≤ F (γ i) ∧ F (γ i) < en18 n zs i (γ i)) :
  Calls Tryz.prog 10 #[v,lv,.slice (some ⟨gR,0,none⟩) n n] w fun e w' => e = .returned (.bool true) ∧ Below w.heap.size w w' := by
 obtain ⟨ata,pa,rfl,pa1,pa2,pa3,hm,hn⟩ := h;have hmn : m * n ≤ 64 * 64 := Nat.mul_le_mul hm hn;have HAA : Hid (∀ wx,Below w.heap.size w wx → ∀ i j,i < m → j < n → ∃ b off cap n1 a l c',ata = .slice (some ⟨b,off,none⟩) (m * n) cap ∧ wx.cell? ⟨b,off + (i * n + j) * 2,none⟩ = some (.bool n1) ∧ wx.cell? ⟨b,off + (i * n + j) * 2 + 1,none⟩ = some (.slice a l c') ∧ Zi wx (.agg #[.bool n1,.slice a l c']) (en18 n zs i j) k) := fun wx h i j hi hj => by
  have := (pa1.now h).isI12 (pa2.now h) (t := i * n + j) (by rw [pa3];exact zyC hi hj);rw [pa3] at this;exact this
 obtain ⟨N,hN⟩ : ∃ N,m * n = N := ⟨_,rfl⟩
 have HNN := hid hN;obtain ⟨aa,ca,rfl,-,-,-,-⟩ := pa1.form;have hpl : pa.length = N := by rw [pa2.1,pa3,hN]
 rw [hpl] at HAA ⊢;rw [hN] at HAA hmn;obtain ⟨W0,hW⟩ : ∃ W0,w.alloc (matO m n (.slice aa N ca)) = W0 := ⟨_,rfl⟩
 obtain ⟨b0,sz0⟩ := alo1 w (matO m n (.slice aa N ca));rw [hW] at b0 sz0;have PA : Hid (Cel W0 w.heap.size 24 (matc m n (.slice aa N ca))) := by unfold Hid;rw [← hW];exact Cel.new w _ _
 have IV := hid hI;have FR := hid hF;have HK := hid hk;have HKW := hid hkw;have HG2 := hid hγ;have HRD := hid hred;have EW := hid hW;obtain ⟨al,cl,rfl,-,-⟩ := hI.form;rw [zKA] at IV ⊢;have H0 : Hid (zPI w r (matc m n (.slice aa N ca)) r (.int .i64 0) W0) := ⟨0,rfl,Nat.zero_le _,rfl,PA.out,b0⟩
 clear pa1 pa2 pa3 hpl b0 sz0 hW hk hN PA hI hF hγ hred hkw;go_enter Tryz.func10,Tryz.ntmps10;go_wp2_with fail;rw [EW.out];clear EW
 go_loopg [7] r (fun gk s7 wx => zPI w r (matc m n (.slice aa N ca)) gk s7 wx)
 case atStart => exact H0.out
 case round =>
  clear H0;obtain ⟨i,rfl,hir,hg,ho⟩ := hrel;have OB := hid ho;have HG := hid hg;clear ho hg
  by_cases hlt : i < r
  ·have hlt' : (i : Int) < (r : Int) := by omega
   have hw := zVA (i := i) (by omega);have HMM : Hid (r - (i + 1) < gk) := by unfold Hid;rw [HG.out];omega
   obtain ⟨gl,cpl,el,kl0⟩ := IV.out.at18 (t := i) (by rw [zKA];exact hlt);rw [zKA] at el;simp only [Value.slice.injEq] at el;obtain ⟨rfl,-,rfl⟩ := el;obtain ⟨c,hc⟩ : ∃ c,γ i = c := ⟨_,rfl⟩
   have e2 : (zmA γ r).getD i 0 = c := by rw [← hc];simp [zmA,hlt]
   rw [e2] at kl0;have kl := cnow OB.out.2 kl0;have hcn : c < n := by rw [← hc];exact HG2.out i hlt
   have hcn' : (c : Int) < (n : Int) := by omega
   have hrd := HRD.out i hlt;rw [hc] at hrd;obtain ⟨nf,af,lf,qf,f0,f1,-,-,zf⟩ := (FR.out.now OB.out.2).at (j := c) hcn;obtain ⟨b3,o3,c3,n3,a3,l3,d3,e3,v0,v1,z3⟩ := HAA.out wr OB.out.2 i c (by omega) hcn;simp only [Value.slice.injEq] at e3;obtain ⟨rfl,-,rfl⟩ := e3;have hp3 : i * n + c < N := by rw [← HNN.out];exact zyC (by omega) hcn
   have k1 := zbC (i := i) (c := n) (by omega) hn;have k3 : IntKind.i64.wrap (((i * n : Nat) : Int) + (c : Int)) = ((i * n + c : Nat) : Int) := by rw [zYA] <;> omega
   obtain ⟨q3,hq3⟩ : ∃ q3,i * n = q3 := ⟨_,rfl⟩
   rw [hq3] at hp3 k1 k3 v0 v1;obtain ⟨t3,ht3⟩ : ∃ t3,q3 + c = t3 := ⟨_,rfl⟩
   rw [ht3] at hp3 k3 v0 v1;have hp3' : (t3 : Int) < (N : Int) := by omega
   have k1' := k1;rw [IntKind.wrap_i64] at k1';have k3' := k3;rw [IntKind.wrap_i64] at k3';obtain ⟨y,hy⟩ : ∃ y,F c = y := ⟨_,rfl⟩
   obtain ⟨z,hz⟩ : ∃ z,en18 n zs i c = z := ⟨_,rfl⟩
   rw [hy,hz] at hrd;rw [hy] at zf;rw [hz] at z3;obtain ⟨VY,hVY⟩ : ∃ VY,wr.alloc (duo (.bool nf) (.slice af lf qf)) = VY := ⟨_,rfl⟩
   obtain ⟨bY,szY⟩ := alo1 wr (duo (.bool nf) (.slice af lf qf));rw [hVY] at bY szY;have PX : Hid (Duo VY wr.heap.size (.bool nf) (.slice af lf qf)) := by unfold Hid;rw [← hVY];exact Duo.new wr _ _
   have ZX := hid (zf.zi.now bY);have Z3 := hid (z3.now bY);have OY := hid (OB.out.step bY);have HS3 : Hid (∀ w',Below VY.heap.size VY w' → Calls Tryz.prog 22 #[.agg #[.bool nf,.slice af lf qf]] w' fun e w'' => e = .returned (.int .i64 (cmpI y 0)) ∧ Below w'.heap.size w' w'') := fun w' hb => zwB (ZX.out.now hb) HKW.out
   have hs3 : ¬ cmpI y 0 < 0 := by
    unfold cmpI;rw [if_neg (by omega)]
    split <;> omega
   obtain ⟨sy,hsy⟩ : ∃ sy,cmpI y 0 = sy := ⟨_,rfl⟩
   simp only [hsy] at HS3;rw [hsy] at hs3;have HC3 : Hid (∀ w',Below VY.heap.size VY w' → Calls Tryz.prog 13 #[.agg #[.bool nf,.slice af lf qf],.agg #[.bool n3,.slice a3 l3 d3]] w' fun e w'' => e = .returned (.int .i64 (-1)) ∧ Below w'.heap.size w' w'') := fun w' hb => by
    have := zGG (ZX.out.now hb) (Z3.out.now hb) HKW.out HK.out;rw [zlA hrd.2] at this;exact this
   obtain ⟨bx,hbx⟩ : ∃ bx,wr.heap.size = bx := ⟨_,rfl⟩
   have p0 := PX.out.c0;have p1 := PX.out.c1;rw [hbx] at p0 p1;have g0 := cnow bY v0;have g1 := cnow bY v1;have kq := cnow bY kl;have m1 := OY.out.1.at (i := 1) rfl;have m2 := OY.out.1.at (i := 2) rfl;have hdec : (decide (sy < 0)) = false := by simpa using hs3
   have EY := hid hVY;have EBX := hid hbx;clear hrd zf z3 hy hz bY szY hVY hsy hq3 ht3 HG PX ZX Z3 kl0 hbx hc e2;go_wp2_with fail;rw [EY.out,EBX.out];clear EY EBX f0 f1 v0 v1 kl;have KB : Hid (∀ w',Below VY.heap.size VY w' → w'.cell? ⟨bx,0,none⟩ = some (.bool nf) ∧ w'.cell? ⟨bx,1,none⟩ = some (.slice af lf qf) ∧ w'.cell? ⟨w.heap.size,1,none⟩ = some (.int .i64 (n : Int)) ∧ w'.cell? ⟨w.heap.size,2,none⟩ = some (.slice (some ⟨b3,o3,none⟩) N ca) ∧ w'.cell? ⟨gl,i,none⟩ = some (.int .i64 (c : Int)) ∧ w'.cell? ⟨b3,o3 + t3 * 2,none⟩ = some (.bool n3) ∧ w'.cell? ⟨b3,o3 + t3 * 2 + 1,none⟩ = some (.slice a3 l3 d3)) := fun w' h => ⟨cnow h p0,cnow h p1,cnow h m1,cnow h m2,cnow h kq,cnow h g0,cnow h g1⟩
   refine zEA (fun w' => w'.cell? ⟨bx,0,none⟩ = some (.bool nf) ∧ w'.cell? ⟨bx,1,none⟩ = some (.slice af lf qf) ∧ w'.cell? ⟨w.heap.size,1,none⟩ = some (.int .i64 (n : Int)) ∧ w'.cell? ⟨w.heap.size,2,none⟩ = some (.slice (some ⟨b3,o3,none⟩) N ca) ∧ w'.cell? ⟨gl,i,none⟩ = some (.int .i64 (c : Int)) ∧ w'.cell? ⟨b3,o3 + t3 * 2,none⟩ = some (.bool n3) ∧ w'.cell? ⟨b3,o3 + t3 * 2 + 1,none⟩ = some (.slice a3 l3 d3)) 20 (by kernel_rfl) ?_;obtain ⟨D1,hD⟩ : ∃ D1,VY.drew = D1 := ⟨_,rfl⟩
   have GB : Hid (Below VY.heap.size VY D1) := by unfold Hid;rw [← hD];exact (Below.refl _ _).drew
   rw [hD];clear hD;refine zGA [(0,(.agg #[.bool nf,.slice af lf qf]))] 1 ?_ (KB.out _ GB.out) ?_
   ·simp only [zQA,gA9,g09,g19,Act.put,sI9,s09,s19]
    (repeat' (first | exact trivial | refine And.intro (Or.inl ⟨by rfl,?_⟩) ?_)) <;> (intro w hSw;(try dsimp only at hSw);go_simp)
   simp only [actV,gA9,g09,g19,Act.put,sI9,s09,s19];refine zAA (i := 1) (o := ⟨some 23,.call { callee := .value (.func 22),args := #[.tmp 22],argTypes := #[40] },3, "plain.go:59",#[⟨0,.data⟩],none⟩) (by kernel_rfl) rfl (fun K hK => ?_);go_simp;go_at_call 22;refine (HS3.out _ GB.out).mono ?_;rintro e w2 ⟨rfl,b⟩;have lz2 := (show Below _ _ _ from b).size;replace GB := hid (below_step GB.out b);clear b;refine hK.out _ _ (fun _ => KB.out _ GB.out) ?_;clear hK;refine zGA [(2,(.bool false)),(3,(.bool false)),(4,(.agg #[.bool nf,.slice af lf qf])),(5,(.pointer (some ⟨w.heap.size,2,none⟩))),(6,(.slice (some ⟨b3,o3,none⟩) N ca)),(7,(.int .i64 (i : Int))),(8,(.pointer (some ⟨w.heap.size,1,none⟩))),(9,(.int .i64 (n : Int))),(10,(.int .i64 (q3 : Int))),(11,(.slice (some ⟨gl,0,none⟩) r cl)),(12,(.int .i64 (i : Int))),(13,(.pointer (some ⟨gl,i,none⟩))),(14,(.int .i64 (c : Int))),(15,(.int .i64 (t3 : Int))),(16,(.pointer (some ⟨b3,o3 + t3 * 2,none⟩))),(17,(.agg #[.bool n3,.slice a3 l3 d3]))] 16 ?_ (KB.out _ GB.out) ?_
   ·simp only [zQA,gA9,g09,g19,Act.put,sI9,s09,s19]
    (repeat' (first | exact trivial | refine And.intro (Or.inl ⟨by rfl,?_⟩) ?_)) <;> (intro w hSw;(try dsimp only at hSw);go_simp)
   simp only [actV,gA9,g09,g19,Act.put,sI9,s09,s19];refine zAA (i := 18) (o := ⟨some 40,.call { callee := .value (.func 13),args := #[.tmp 26,.tmp 39],argTypes := #[40,40] },3, "plain.go:59",#[⟨4,.data⟩,⟨17,.data⟩,⟨3,.chain⟩,⟨3,.guard⟩],some (3,false)⟩) (by kernel_rfl) rfl (fun K hK => ?_);go_simp;go_at_call 13;refine (HC3.out _ GB.out).mono ?_;rintro e w3 ⟨rfl,b⟩;have lz3 := (show Below _ _ _ from b).size;replace GB := hid (below_step GB.out b);clear b;refine hK.out _ _ (fun _ => KB.out _ GB.out) ?_;clear hK;refine zGA [(19,(.bool false))] 1 ?_ (KB.out _ GB.out) ?_
   ·simp only [zQA,gA9,g09,g19,Act.put,sI9,s09,s19]
    (repeat' (first | exact trivial | refine And.intro (Or.inl ⟨by rfl,?_⟩) ?_)) <;> (intro w hSw;(try dsimp only at hSw);go_simp)
   simp only [actV,gA9,g09,g19,Act.put,sI9,s09,s19];refine zAA (i := 20) (o := ⟨some 42,.pick (.tmp 25) (.const (.bool true)) (.tmp 41),4, "plain.go:59",#[⟨3,.data⟩,⟨19,.data⟩],none⟩) (by kernel_rfl) rfl (fun K hK => ?_);go_simp;refine hK.out _ _ (fun h => absurd h (by decide)) ?_;clear hK
   try simp only [Act.put]
   refine zDA (by kernel_rfl) ?_ _;have HN1 : Hid (zPI w r (matc m n (.slice (some ⟨b3,o3,none⟩) N ca)) (r - (i + 1)) (.int .i64 ((i + 1 : Nat) : Int)) w3) := ⟨i + 1,rfl,by omega,rfl,OY.out.step GB.out⟩
   clear GB KB HS3 HC3 p0 p1 g0 g1 kq m1 m2 OB OY;go_wp2_with fail;go_roundg (r - (i + 1))
   case rel => exact HN1.out
   case measure => exact HMM.out
  ·have hlt' : ¬ (i : Int) < (r : Int) := by omega
   have FF := hid OB.out.2;clear HG OB;go_wp2;go_ret;exact ⟨rfl,FF.out⟩
open Go.RowKit Go.Shelf Go.Lib
theorem zuE : (Tryz.prog.info? 118).map (fun i => (i.zero,i.size,i.bytes)) = some (some (.agg #[.int .i64 0,.int .i64 0]),2,16) := by kernel_rfl
theorem zEG (r : Nat) (ρ γ : Nat → Nat) : ∀ v ∈ sc18 r ρ γ,v.oneCell' = true := by
 induction r with
 | zero => intro v hv;simp [sc18] at hv
 | succ r ih =>
  intro v hv;rw [sc18_succ] at hv;rcases List.mem_append.1 hv with q | q
  ·exact ih v q
  ·simp at q
   rcases q with rfl | rfl <;> rfl
theorem zRD {p x y : Nat} {ρ γ : Nat → Nat} : ∀ d,sc18 (p + d + 1) (insF p x ρ) (insF p y γ) = (sc18 (p + d) ρ γ).take (p * 2) ++ [.int .i64 (x : Int),.int .i64 (y : Int)] ++ (sc18 (p + d) ρ γ).drop (p * 2)
 | 0 => by
  rw [Nat.add_zero,sc18_succ,zzD,zzD,zvC (r := p) (ρ := insF p x ρ) (γ := insF p y γ) (ρ' := ρ) (γ' := γ) fun a ha => ⟨zxD ha,zxD ha⟩,List.take_of_length_le (by rw [zeA];omega),List.drop_of_length_le (by rw [zeA];omega),List.append_nil]
  rfl
 | d + 1 => by
  have ih := zRD (p := p) (x := x) (y := y) (ρ := ρ) (γ := γ) d;rw [show p + (d + 1) + 1 = (p + d + 1) + 1 by omega,sc18_succ,ih,zyD (by omega),zyD (by omega),show p + (d + 1) = (p + d) + 1 by omega,sc18_succ,show p + d + 1 - 1 = p + d by omega,
   List.take_append_of_le_length (by rw [zeA];omega),List.drop_append_of_le_length (by rw [zeA];omega),List.append_assoc]
def zxF (B : Nat) (w : World) (sv : Value) (r : Nat) (ρ γ : Nat → Nat) (e : Ending) (w' : World) : Prop :=
 ∃ sv',e = .returned sv' ∧ Sp18 B w' sv' r ρ γ ∧ Touch (fun b => sv.ownBlock = some b) w w'
theorem Sp18.own {B r : Nat} {w : World} {sv : Value} {ρ γ : Nat → Nat} (h : Sp18 B w sv r ρ γ) : w.ownsRow B 118 2 sv r (sc18 r ρ γ) := by
 refine ⟨zeA r ρ γ,?_⟩;rcases h with ⟨rfl,rfl⟩ | ⟨h0,Bp,cap,t,rfl,e0,e1,e2,e3,e4⟩
 ·exact .inl ⟨rfl,rfl⟩
 ·exact .inr ⟨Bp,cap,_,rfl,e1,e4,e0,e2,by simp [zeA];omega,by rw [← zeA r ρ γ];simp⟩
theorem Sp18.of {B r : Nat} {w : World} {sv : Value} {ρ γ : Nat → Nat} (h : w.ownsRow B 118 2 sv r (sc18 r ρ γ)) (h0 : 0 < r) : Sp18 B w sv r ρ γ := by
 rcases h.2 with ⟨_,e⟩ | ⟨g,cap,cur,rfl,e0,e1,e2,e3,e4,e5⟩
 ·omega
 ·refine .inr ⟨h0,g,cap,cur.toList.drop (r * 2),rfl,e2,e0,e3,by simp;omega,?_⟩
  have : sc18 r ρ γ ++ cur.toList.drop (r * 2) = cur.toList := by rw [← e5,List.take_append_drop]
  rw [this]
  show w.heap[g]? = some (.cells cur.toList.toArray _ _)
  simpa using e1
theorem insert_end18 {B r vb x y : Nat} {w : World} {sv : Value} {ρ γ : Nat → Nat} (h : Sp18 B w sv r ρ γ) (hv : Cel w vb 118 [.int .i64 (x : Int),.int .i64 (y : Int)]) (hr : r < 64) (hB : B ≤ w.heap.size) :
  Calls Tryz.prog 87 #[sv,.int .i64 (r : Int),.slice (some ⟨vb,0,none⟩) 1 1] w (zxF B w sv (r + 1) (insF r x ρ) (insF r y γ)) := by
 obtain ⟨i,hii,hz,hsz,hby⟩ := info_parts zuE;have hown := hid h.own;have hnews : Hid (∀ j u,[Value.int .i64 (x : Int),Value.int .i64 (y : Int)][j]? = some u → w.cell? ((⟨vb,0,none⟩ : Addr).add j) = some u) := fun j u hj => by
  rw [Addr.add_lit,Nat.zero_add];exact hv.at hj
 have FIN : Hid (∀ v' w',w'.ownsRow B 118 2 v' (r + 1) (sc18 r ρ γ ++ [.int .i64 (x : Int),.int .i64 (y : Int)]) → w.grownBy w' sv.ownBlock → zxF B w sv (r + 1) (insF r x ρ) (insF r y γ) (.returned v') w') := fun v' w' h1 h2 => by
  refine ⟨v',rfl,Sp18.of ?_ (by omega),⟨h2.os,h2.tape,h2.output,h2.size,fun b hb hn => h2.block b hb fun e => hn e.symm⟩⟩;have e := zRD (p := r) (x := x) (y := y) (ρ := ρ) (γ := γ) 0;rw [Nat.add_zero,List.take_of_length_le (by rw [zeA];omega),List.drop_of_length_le (by rw [zeA];omega),List.append_nil] at e;rw [e];exact h1
 obtain ⟨sa,sc,rfl⟩ : ∃ sa sc,sv = .slice sa r sc := by
  rcases h with ⟨e,h⟩ | ⟨_,Bp,cap,t,e,_⟩
  ·exact ⟨none,0,by rw [e];exact h⟩
  ·exact ⟨_,cap,e⟩
 have hsr : sa = none → sc = 0 := by
  intro e;rcases h with ⟨_,h⟩ | ⟨_,Bp,cap,t,e',_⟩
  ·simp at h;exact h.2.2
  ·rw [e] at e';cases e'
 have hrc : r ≤ sc := by
  rcases h with ⟨e,_⟩ | ⟨_,Bp,cap,t,e',e0,_⟩
  ·omega
  ·simp at e';omega
 have hrc' : (r : Int) ≤ (sc : Int) := by omega
 clear h hv
 by_cases hcr : sc = r
 ·subst hcr
  go_enter Tryz.func87,Tryz.ntmps87;go_wp2_with (at_builtin;refine wpList_append_own w rfl (.tmp 23) (.tmp 24) 83 rfl B 118 i (.agg #[.int .i64 0,.int .i64 0]) 2 16 Tryz.underlying83 hii hz hsz hby rfl (by omega) _ sc (sc18 sc ρ γ) rfl hown.out ⟨vb,0,none⟩ 1 1 [.int .i64 (x : Int),.int .i64 (y : Int)] rfl rfl hnews.out (by intro u hu;simp at hu;rcases hu with rfl | rfl <;> rfl) (by unfold maxLen;omega) (by omega) hB ?_)
  intro v' w' h1 h2 h3;have FF := hid (FIN.out v' w' h1 h2);clear h1 h2 h3 FIN hown hnews;go_wp2;go_ret;exact FF.out
 ·have hcr' : ¬ (sc : Int) = (r : Int) := by omega
  go_enter Tryz.func87,Tryz.ntmps87;go_wp2_with (at_builtin;refine wpList_append_own w rfl (.tmp 23) (.tmp 24) 83 rfl B 118 i (.agg #[.int .i64 0,.int .i64 0]) 2 16 Tryz.underlying83 hii hz hsz hby rfl (by omega) _ r (sc18 r ρ γ) rfl hown.out ⟨vb,0,none⟩ 1 1 [.int .i64 (x : Int),.int .i64 (y : Int)] rfl rfl hnews.out (by intro u hu;simp at hu;rcases hu with rfl | rfl <;> rfl) (by unfold maxLen;omega) (by omega) hB ?_)
  intro v' w' h1 h2 h3;have FF := hid (FIN.out v' w' h1 h2);clear h1 h2 h3 FIN hown hnews;go_wp2;go_ret;exact FF.out
end Go.Proofs.YtdeomkkpainakaaGreat
