/-
 QVm12ToLx18: Vm12, Lx18, joined.
-/
import Derived.Test.YtmnecbniappnaaaGreatQR5AddToTn12
import Derived.Test.YtmnecbniappnaaaGreatQTailLToTo18
import Derived.Test.YtmnecbniappnaaaGreatQFil9ToRowsOf9
import Derived.Test.YtmnecbniappnaaaGreatQLi18ToZg18
import Derived.Test.YtmnecbniappnaaaGreatQLm6ToLeastA9

set_option maxRecDepth 100000
set_option maxHeartbeats 6400000
set_option linter.unusedVariables false
set_option linter.unusedSimpArgs false
namespace Go.Proofs.YtmnecbniappnaaaGreat
open Go.RowKit
def vmF (c : Nat) (xs ys : List Int) (j k : Nat) : Int := su k fun t => xs.getD t 0 * ys.getD (t * c + j) 0
def vmS (r c : Nat) (xs ys : List Int) (j t : Nat) : List Int := (List.range c).map fun s => if s < j then vmF c xs ys s r else if s = j then vmF c xs ys j t else 0
def vecZ (r c : Nat) (xs ys : List Int) : List Int := (List.range c).map fun j => vmF c xs ys j r
theorem ziF (r c : Nat) (xs ys : List Int) (j t : Nat) : (vmS r c xs ys j t).length = c := by simp [vmS]
theorem vmS_zero (r c : Nat) (xs ys : List Int) : vmS r c xs ys 0 0 = List.replicate c 0 := by
 apply List.ext_getElem (by simp [vmS])
 intro i h1 h2;simp [vmS,vmF,su]
theorem vmS_next (r c : Nat) (xs ys : List Int) (j : Nat) : vmS r c xs ys j r = vmS r c xs ys (j + 1) 0 := by
 unfold vmS
 apply List.map_congr_left
 intro s _
 by_cases h1 : s < j
 ·rw [if_pos h1,if_pos (by omega)]
 ·by_cases h2 : s = j
  ·subst h2;rw [if_neg h1,if_pos rfl,if_pos (by omega)]
  ·rw [if_neg h1,if_neg h2,if_neg (by omega)]
   by_cases h3 : s = j + 1
   ·rw [if_pos h3];rfl
   ·rw [if_neg h3]
theorem vmS_put {r c : Nat} {xs ys : List Int} {j t : Nat} (hj : j < c) : (vmS r c xs ys j t).set j (vmF c xs ys j (t + 1)) = vmS r c xs ys j (t + 1) := by
 apply List.ext_getElem (by simp [vmS])
 intro s h1 h2;rw [List.getElem_set];simp only [vmS,List.getElem_map,List.getElem_range]
 by_cases h : j = s
 ·subst h;simp
 ·rw [if_neg h]
  by_cases h3 : s < j
  ·rw [if_pos h3,if_pos h3]
  ·rw [if_neg h3,if_neg h3,if_neg (fun e => h e.symm),if_neg (fun e => h e.symm)]
theorem vmS_done (r c : Nat) (xs ys : List Int) : vmS r c xs ys c 0 = vecZ r c xs ys := by
 unfold vmS vecZ
 apply List.map_congr_left
 intro s hs;rw [if_pos (List.mem_range.1 hs)]
theorem ArZ.put_at {w : World} {g t : Nat} {zs : List Int} {k : Nat} {x y : Value} {z : Int} (h : ArZ w g zs k) (ht : t < zs.length) (hz : Zm 0 w (.agg #[x,y]) z k) :
  ((w.setCell ⟨g,t * 2,none⟩ x).setCell ⟨g,t * 2 + 1,none⟩ y).cell? ⟨g,t * 2,none⟩ = some x ∧ ((w.setCell ⟨g,t * 2,none⟩ x).setCell ⟨g,t * 2 + 1,none⟩ y).cell? ⟨g,t * 2 + 1,none⟩ = some y := by
 obtain ⟨ps,h1,h2⟩ := h;have h3 := h1.put (i := t) (by rw [h2.1];exact ht) (x := x) (y := y) hz.zi.isI;exact h3.at (i := t) (p := (x,y)) (by simp [show t < ps.length by rw [h2.1];exact ht])
theorem Zm.nought12 {B k : Nat} {w : World} {v : Value} (h : Zm B w v 0 k) (l : Nat) : Zm B w v 0 l := by
 obtain ⟨n,zs,a,c,rfl,h1,hc,hn,hv,-⟩ := h;have h0 : val zs = 0 := by
  cases n
  ·simpa [iv] using hv
  ·simp only [iv,if_true] at hv;omega
 have e := zPB hc h0;subst e;exact ⟨n,[],a,c,rfl,h1,hc,hn,hv,Nat.zero_le _⟩
def MBV (w wx : World) (A0 : List Value) : Prop := Cel wx w.heap.size 24 A0 ∧ Below w.heap.size w wx
theorem MBV.step {w x y : World} {A0 : List Value} (h : MBV w x A0) (hb : Below x.heap.size x y) : MBV w y A0 := ⟨h.1.step hb,below_step h.2 hb⟩
theorem MBV.ty {w x y : World} {A0 : List Value} (h : MBV w x A0) (ht : Ty 40 x y) (hb : Below w.heap.size w y) : MBV w y A0 := ⟨h.1.ty12 ht (by decide),hb⟩
def VmJ (w : World) (g r c : Nat) (xs ys : List Int) (kk : Nat) (A0 : List Value) (gk : Nat) (s : Value) (wx : World) : Prop :=
 ∃ j : Nat,s = .int .i64 (j : Int) ∧ j ≤ c ∧ gk = c - j ∧ ArZ wx g (vmS r c xs ys j 0) kk ∧ MBV w wx A0
def VmT (w : World) (g r c j : Nat) (xs ys : List Int) (kk k0 : Nat) (A0 : List Value) (gk : Nat) (s : Value) (wx : World) : Prop :=
 ∃ t : Nat,s = .int .i64 (t : Int) ∧ t ≤ r ∧ gk = r - t ∧ ArZ wx g (vmS r c xs ys j t) kk ∧ MBV w wx A0 ∧ ∃ n a l q,wx.cell? ⟨g,j * 2,none⟩ = some (.bool n) ∧ wx.cell? ⟨g,j * 2 + 1,none⟩ = some (.slice a l q) ∧ Zm 0 wx (.agg #[.bool n,.slice a l q]) (vmF c xs ys j t) (k0 + t)
def zSH (w : World) (r c : Nat) (xs ys : List Int) (k : Nat) (e : Ending) (w' : World) : Prop := ∃ g,e = .returned (.tuple #[.slice (some ⟨g,0,none⟩) c c,.int .i64 0]) ∧ w.heap.size ≤ g ∧ ArZ w' g (vecZ r c xs ys) k ∧ Below w.heap.size w w'
def zRH (w : World) (zs : List Int) (k : Nat) (e : Ending) (w' : World) : Prop := ∃ u ps,e = .returned (.tuple #[u,.int .i64 0]) ∧ PrsT w' u ps ∧ Zms w' ps zs k ∧ Below w.heap.size w w'
theorem rvec12a {w : World} {v va : Value} {pv : List (Value × Value)} {r c : Nat} {xs ys : List Int} {ka kb : Nat} (hv : Prs 0 w v pv) (hvz : Zis w pv xs ka) (hvl : xs.length = r) (ha : Mx w va r c ys kb) (hk : ka + kb + 64 ≤ 1099511627776) :
  Calls Tryz.prog 10 #[v,va] w (zSH w r c xs ys (ka + kb + 64)) := by
 have HCK := hid (rcheckM ha);obtain ⟨ata,pa,rfl,pa1,pa2,pa3,hr,hc⟩ := ha;have HVV : Hid (∀ wx,Below w.heap.size w wx → ∀ t,t < r → ∃ b off cap n a l c,v = .slice (some ⟨b,off,none⟩) r cap ∧ wx.cell? ⟨b,off + t * 2,none⟩ = some (.bool n) ∧ wx.cell? ⟨b,off + t * 2 + 1,none⟩ = some (.slice a l c) ∧ Zi wx (.agg #[.bool n,.slice a l c]) (xs.getD t 0) ka) := fun wx h t ht => by
  have := (hv.now h).isI12 (hvz.now h) (t := t) (by rw [hvl];exact ht);rw [hvl] at this;exact this
 have HAA : Hid (∀ wx,Below w.heap.size w wx → ∀ t,t < r * c → ∃ b off cap n a l c',ata = .slice (some ⟨b,off,none⟩) (r * c) cap ∧ wx.cell? ⟨b,off + t * 2,none⟩ = some (.bool n) ∧ wx.cell? ⟨b,off + t * 2 + 1,none⟩ = some (.slice a l c') ∧ Zi wx (.agg #[.bool n,.slice a l c']) (ys.getD t 0) kb) := fun wx h t ht => by
  have := (pa1.now h).isI12 (pa2.now h) (t := t) (by rw [pa3];exact ht);rw [pa3] at this;exact this
 have hrc : r * c ≤ 64 * 64 := Nat.mul_le_mul hr hc;obtain ⟨N,hN⟩ : ∃ N,r * c = N := ⟨_,rfl⟩
 have HNN := hid hN;obtain ⟨aa,ca,rfl,-,-,-,-⟩ := pa1.form;have hpl : pa.length = N := by rw [pa2.1,pa3,hN]
 rw [hN] at HAA hrc;rw [hpl] at HAA HCK ⊢;obtain ⟨av,cv,rfl,-,-,-,-⟩ := hv.form;have hvp : pv.length = r := by rw [hvz.1,hvl]
 rw [hvp] at HVV ⊢;obtain ⟨W0,hW⟩ : ∃ W0,w.alloc (matO r c (.slice aa N ca)) = W0 := ⟨_,rfl⟩
 obtain ⟨b0,sz0⟩ := alo1 w (matO r c (.slice aa N ca));rw [hW] at b0 sz0;have PA : Hid (Cel W0 w.heap.size 24 (matc r c (.slice aa N ca))) := by unfold Hid;rw [← hW];exact Cel.new w _ _
 have x0 := PA.out.at (i := 0) rfl;have x1 := PA.out.at (i := 1) rfl;have x2 := PA.out.at (i := 2) rfl;rw [← hW] at x0 x1 x2;have G0 := hid b0;have SZ := hid sz0;have HK := hid hk;have EW := hid hW;clear pa1 pa2 pa3 hv hvz hvl hvp hpl b0 sz0 hW hk hN;go_enter Tryz.func10,Tryz.ntmps10;go_wp2_with fail;rw [EW.out];refine (HCK.out _ G0.out).mono ?_;rintro e w1 ⟨rfl,b1⟩;have PA1 := hid (PA.out.step b1);have G1 := hid (below_step G0.out b1);have sz1 := b1.size;clear x0 x1 x2 EW PA G0 HCK;have x0 := PA1.out.at (i := 0) rfl;have x1 := PA1.out.at (i := 1) rfl;have q0 : ((r : Int) != (r : Int)) = false := by simp
 go_wp2_with (at_make;refine zcA _ rfl _ _ rfl _ _ c c rfl rfl rfl rfl (Nat.le_refl _) (by omega) ?_)
 intro w2 hrow hb2 hsz2;obtain ⟨g,hg⟩ : ∃ g,w1.heap.size = g := ⟨_,rfl⟩
 have HGW : Hid (w.heap.size < g) := by unfold Hid;have h1 := SZ.out;omega
 rw [hg] at hrow;have H0 : Hid (VmJ w g r c xs ys (ka + kb + 64) (matc r c (.slice aa N ca)) c (.int .i64 0) w2) :=
  ⟨0,rfl,Nat.zero_le _,by omega,by rw [vmS_zero];exact ArZ.start hrow _,PA1.out.step hb2,below_step G1.out hb2⟩
 clear x0 x1 q0 PA1 G1 hrow hb2 hsz2 SZ sz1 b1;go_wp2_with fail;rw [hg];clear hg
 go_loopg [8] c (fun gk s8 wx => VmJ w g r c xs ys (ka + kb + 64) (matc r c (.slice aa N ca)) gk s8 wx)
 case atStart => exact H0.out
 case round =>
  clear H0;obtain ⟨j,rfl,hjn,hg,hfil,hmb⟩ := hrel;have FI := hid hfil;have MBx := hid hmb;have HG := hid hg;clear hfil hmb hg;have x1 := MBx.out.1.at (i := 1) rfl
  by_cases hlt : j < c
  ·have hlt' : (j : Int) < (c : Int) := by omega
   have hw := zVA (i := j) (by omega);have HMM : Hid (c - (j + 1) < gk) := by unfold Hid;rw [HG.out];omega
   have H1 : Hid (VmT w g r c j xs ys (ka + kb + 64) (ka + kb) (matc r c (.slice aa N ca)) r (.int .i64 0) wr) := by
    obtain ⟨m0,am,lm,cm,e0,e1,-,-,e4⟩ := FI.out.cells (j := j) (by rw [ziF];exact hlt);refine ⟨0,rfl,Nat.zero_le _,by omega,FI.out,MBx.out,m0,am,lm,cm,e0,e1,?_⟩;have e5 : (vmS r c xs ys j 0).getD j 0 = 0 := by simp [vmS,hlt,vmF,su]
    rw [e5] at e4;have e6 : vmF c xs ys j 0 = 0 := rfl;rw [e6];exact e4.nought12 _
   clear HG FI MBx;go_wp2_with fail
   go_loopg [9] r (fun gk2 s9 wx => VmT w g r c j xs ys (ka + kb + 64) (ka + kb) (matc r c (.slice aa N ca)) gk2 s9 wx)
   case atStart => exact H1.out
   case round =>
    clear H1 x1;obtain ⟨t,rfl,htn,hg,hfil,hmb,ns,as_,ls,cs,s0,s1,hzm⟩ := hrel;have FI := hid hfil;have MBx := hid hmb;have HG := hid hg;have ZX := hid hzm;clear hfil hmb hg hzm;have x0 := MBx.out.1.at (i := 0) rfl
    by_cases hlt2 : t < r
    ·have hlt2' : (t : Int) < (r : Int) := by omega
     have hw2 := zVA (i := t) (by omega);have HMM2 : Hid (r - (t + 1) < gk) := by unfold Hid;rw [HG.out];omega
     have hp1 : t * c + j < N := by rw [← HNN.out];exact zmE hlt2 hlt
     obtain ⟨b1,o1,c1,n1,a1,l1,d1,e1,u0,u1,z1⟩ := HVV.out wr MBx.out.2 t hlt2;simp only [Value.slice.injEq] at e1;obtain ⟨rfl,-,rfl⟩ := e1;obtain ⟨b2,o2,c2,n2,a2,l2,d2,e2,v0,v1,z2⟩ := HAA.out wr MBx.out.2 (t * c + j) hp1;simp only [Value.slice.injEq] at e2;obtain ⟨rfl,-,rfl⟩ := e2;have k2 := zsB (i := t) (c := c) (by omega) hc;have k4 : IntKind.i64.wrap (((t * c : Nat) : Int) + (j : Int)) = ((t * c + j : Nat) : Int) := by rw [zZA] <;> omega
     have HS : Hid (∀ w',Below wr.heap.size wr w' → Calls Tryz.prog 26 #[.agg #[.bool n1,.slice a1 l1 d1],.agg #[.bool n2,.slice a2 l2 d2],.agg #[.bool ns,.slice as_ ls cs]] w' (zkA w' (vmF c xs ys j (t + 1)) (ka + kb + (t + 1)))) := fun w' h => by
      have q := rmulAdd_z (z1.now h) (z2.now h) (ZX.out.zi.now h) (by have := HK.out;omega) (by have := HK.out;omega);refine q.mono ?_;rintro e w'' ⟨rr,q1,q2,q3⟩;refine ⟨rr,q1,?_,q3⟩;have e1 : xs.getD t 0 * ys.getD (t * c + j) 0 + vmF c xs ys j t = vmF c xs ys j (t + 1) := by
       show _ = vmF c xs ys j t + xs.getD t 0 * ys.getD (t * c + j) 0
       exact Int.add_comm _ _
      rw [e1] at q2;exact q2.more (by omega)
     obtain ⟨q2,hq2⟩ : ∃ q2,t * c = q2 := ⟨_,rfl⟩
     rw [hq2] at hp1 k2 k4 v0 v1;obtain ⟨t2,ht2⟩ : ∃ t2,q2 + j = t2 := ⟨_,rfl⟩
     rw [ht2] at hp1 k4 v0 v1;have hp2' : (t2 : Int) < (N : Int) := by omega
     have k2' := k2;have k4' := k4;rw [IntKind.wrap_i64] at k2' k4';have x1 := MBx.out.1.at (i := 1) rfl;have x2 := MBx.out.1.at (i := 2) rfl;clear z1 z2 hq2 ht2 HG ZX;go_wp2_with fail;have KB : Hid (∀ w',Below wr.heap.size wr w' → w'.cell? ⟨w.heap.size,1,none⟩ = some (.int .i64 (c : Int)) ∧ w'.cell? ⟨w.heap.size,2,none⟩ = some (.slice (some ⟨b2,o2,none⟩) N ca) ∧ w'.cell? ⟨b1,o1 + t * 2,none⟩ = some (.bool n1) ∧ w'.cell? ⟨b1,o1 + t * 2 + 1,none⟩ = some (.slice a1 l1 d1) ∧ w'.cell? ⟨b2,o2 + t2 * 2,none⟩ = some (.bool n2) ∧ w'.cell? ⟨b2,o2 + t2 * 2 + 1,none⟩ = some (.slice a2 l2 d2) ∧ w'.cell? ⟨g,j * 2,none⟩ = some (.bool ns) ∧ w'.cell? ⟨g,j * 2 + 1,none⟩ = some (.slice as_ ls cs)) := fun w' h => ⟨cnow h x1,cnow h x2,cnow h u0,cnow h u1,cnow h v0,cnow h v1,cnow h s0,cnow h s1⟩
     refine zFA (fun w' => w'.cell? ⟨w.heap.size,1,none⟩ = some (.int .i64 (c : Int)) ∧ w'.cell? ⟨w.heap.size,2,none⟩ = some (.slice (some ⟨b2,o2,none⟩) N ca) ∧ w'.cell? ⟨b1,o1 + t * 2,none⟩ = some (.bool n1) ∧ w'.cell? ⟨b1,o1 + t * 2 + 1,none⟩ = some (.slice a1 l1 d1) ∧ w'.cell? ⟨b2,o2 + t2 * 2,none⟩ = some (.bool n2) ∧ w'.cell? ⟨b2,o2 + t2 * 2 + 1,none⟩ = some (.slice a2 l2 d2) ∧ w'.cell? ⟨g,j * 2,none⟩ = some (.bool ns) ∧ w'.cell? ⟨g,j * 2 + 1,none⟩ = some (.slice as_ ls cs)) 22 (by kernel_rfl) ?_;obtain ⟨D1,hD⟩ : ∃ D1,wr.drew = D1 := ⟨_,rfl⟩
     have GB : Hid (Below wr.heap.size wr D1) := by unfold Hid;rw [← hD];exact (Below.refl _ _).drew
     rw [hD];clear hD;have GBs := GB;refine zHA [(0,(.slice (some ⟨g,0,none⟩) c c)),(1,(.int .i64 (j : Int))),(2,(.slice (some ⟨b1,o1,none⟩) r cv)),(3,(.int .i64 (t : Int))),(4,(.pointer (some ⟨b1,o1 + t * 2,none⟩))),(5,(.agg #[.bool n1,.slice a1 l1 d1])),(6,(.pointer (some ⟨w.heap.size,2,none⟩))),(7,(.slice (some ⟨b2,o2,none⟩) N ca)),(8,(.int .i64 (t : Int))),(9,(.pointer (some ⟨w.heap.size,1,none⟩))),(10,(.int .i64 (c : Int))),(11,(.int .i64 (q2 : Int))),(12,(.int .i64 (j : Int))),(13,(.int .i64 (t2 : Int))),(14,(.pointer (some ⟨b2,o2 + t2 * 2,none⟩))),(15,(.agg #[.bool n2,.slice a2 l2 d2])),(16,(.slice (some ⟨g,0,none⟩) c c)),(17,(.int .i64 (j : Int))),(18,(.pointer (some ⟨g,j * 2,none⟩))),(19,(.agg #[.bool ns,.slice as_ ls cs]))] 20 ?_ (KB.out _ GB.out) ?_
     ·simp only [zSA,gA9,g09,g19,Act.put,sI9,s09,s19]
      (repeat' (first | exact trivial | refine And.intro (Or.inl ⟨by rfl,?_⟩) ?_)) <;> (intro w hSw;(try dsimp only at hSw);go_simp)
     simp only [actV,gA9,g09,g19,Act.put,sI9,s09,s19];refine zAA (i := 20) (o := ⟨some 55,.call { callee := .value (.func 26),args := #[.tmp 40,.tmp 50,.tmp 54],argTypes := #[40,40,40] },40, "ref.go:181",#[⟨5,.data⟩,⟨15,.data⟩,⟨19,.data⟩],none⟩) (by kernel_rfl) rfl (fun K hK => ?_);go_simp;go_at_call 26;refine (HS.out _ GB.out).mono ?_;rintro e w2 ⟨rr,rfl,m1,b⟩;have lz2 := (show Below _ _ _ from b).size;replace GB := hid (below_step GB.out b);have FI1 := hid (FI.out.step (below_step (w0 := wr) GBs.out b));have MB1 := hid (MBx.out.step (below_step (w0 := wr) GBs.out b));have M1 := hid (m1.mono (Nat.zero_le _));obtain ⟨nr,xr,ar,cr,rfl⟩ := m1.parts;clear m1;clear b;refine hK.out _ _ (fun _ => KB.out _ GB.out) ?_;clear hK;refine zHA [(21,(.pointer (some ⟨g,j * 2,none⟩)))] 1 ?_ (KB.out _ GB.out) ?_
     ·simp only [zSA,gA9,g09,g19,Act.put,sI9,s09,s19]
      (repeat' (first | exact trivial | refine And.intro (Or.inl ⟨by rfl,?_⟩) ?_)) <;> (intro w hSw;(try dsimp only at hSw);go_simp)
     simp only [actV,gA9,g09,g19,Act.put,sI9,s09,s19];refine zAA (i := 22) (o := ⟨none,.store 40 (.tmp 56) (.tmp 55),0, "ref.go:181",#[⟨21,.data⟩,⟨20,.data⟩,⟨20,.chain⟩,⟨0,.phase⟩,⟨1,.phase⟩,⟨2,.phase⟩,⟨3,.phase⟩,⟨4,.phase⟩,⟨5,.phase⟩,⟨6,.phase⟩,⟨7,.phase⟩,⟨8,.phase⟩,⟨9,.phase⟩,⟨10,.phase⟩,⟨11,.phase⟩,⟨12,.phase⟩,⟨13,.phase⟩,⟨14,.phase⟩,⟨15,.phase⟩,⟨16,.phase⟩,⟨17,.phase⟩,⟨18,.phase⟩,⟨19,.phase⟩,⟨20,.phase⟩],none⟩) (by kernel_rfl) rfl (fun K hK => ?_);obtain ⟨m0,am,lm,cm,e0,e1,e2,e3,-⟩ := FI1.out.cells (j := j) (by rw [ziF];exact hlt);go_simp;clear e0 e1 e2 e3;obtain ⟨V3,hW⟩ : ∃ V3,((w2.setCell ⟨g,j * 2,none⟩ (.bool nr)).setCell ⟨g,j * 2 + 1,none⟩ (.slice ar xr.length cr)) = V3 := ⟨_,rfl⟩
     have HN1 : Hid (VmT w g r c j xs ys (ka + kb + 64) (ka + kb) (matc r c (.slice (some ⟨b2,o2,none⟩) N ca)) (r - (t + 1)) (.int .i64 ((t + 1 : Nat) : Int)) V3) := by
      unfold Hid;rw [← hW];have hm := M1.out.more (l := ka + kb + 64) (by omega);have hj := (ziF r c xs ys j t).symm ▸ hlt;have hq := FI1.out.put_at hj hm;refine ⟨t + 1,rfl,by omega,rfl,?_,MB1.out.ty (FI1.out.ty12 _ _) (bset (bset MB1.out.2 (by have := HGW.out;omega)) (by have := HGW.out;omega)),nr,ar,xr.length,cr,hq.1,hq.2,M1.out.ty (FI1.out.ty12 _ _) (by decide)⟩;rw [← vmS_put hlt];exact FI1.out.put hj hm
     rw [hW];clear hW;refine hK.out _ _ (fun h => absurd h (by decide)) ?_;clear hK
     try simp only [Act.put]
     refine zDA (by kernel_rfl) ?_ _;clear HS FI MBx FI1 MB1 M1 GBs GB KB;go_wp2_with fail;go_roundg (r - (t + 1))
     case rel => exact HN1.out
     case measure => exact HMM2.out
    ·have hlt2' : ¬ (t : Int) < (r : Int) := by omega
     obtain rfl : t = r := by omega
     have HN1 : Hid (VmJ w g t c xs ys (ka + kb + 64) (matc t c (.slice aa N ca)) (c - (j + 1)) (.int .i64 ((j + 1 : Nat) : Int)) wr) := by
      refine ⟨j + 1,rfl,by omega,rfl,?_,MBx.out⟩;rw [← vmS_next];exact FI.out
     clear FI MBx HG ZX s0 s1;go_wp2_with fail;go_roundg (c - (j + 1))
     case rel => exact HN1.out
     case measure => exact HMM.out
  ·have hlt' : ¬ (j : Int) < (c : Int) := by omega
   obtain rfl : j = c := by omega
   have FI2 := FI.out;rw [vmS_done] at FI2;have FIN : Hid (zSH w r j xs ys (ka + kb + 64) (.returned (.tuple #[.slice (some ⟨g,0,none⟩) j j,.int .i64 0])) wr) := ⟨g,rfl,Nat.le_of_lt HGW.out,FI2,MBx.out.2⟩
   clear FI MBx HG FI2;go_wp2;go_ret2;exact FIN.out
theorem rvec12 {w : World} {v va : Value} {pv : List (Value × Value)} {r c : Nat} {xs ys : List Int} {ka kb : Nat} (hv : Prs 0 w v pv) (hvz : Zis w pv xs ka) (hvl : xs.length = r) (ha : Mx w va r c ys kb) (hk : ka + kb + 64 ≤ 1099511627776) :
  Calls Tryz.prog 10 #[v,va] w (zRH w (vecZ r c xs ys) (ka + kb + 64)) := by
 have hc : c ≤ 64 := by obtain ⟨_,_,_,_,_,_,_,h⟩ := ha;exact h
 refine (rvec12a hv hvz hvl ha hk).mono ?_;rintro e w' ⟨g,rfl,-,h,b⟩;have hl2 : (vecZ r c xs ys).length = c := by simp [vecZ]
 obtain ⟨ps,p1,p2⟩ := h.done (by rw [hl2];omega);rw [hl2] at p1;exact ⟨_,ps,rfl,p1,p2,b⟩
theorem alikeX18_yes {w : World} {v u : Value} {z y : Int} {k l : Nat} (h : Zc w v z k) (h' : Zc w u y l) (hzy : z = y) :
  Calls Tryz.prog 46 #[v,u] w fun e w' => e = .returned (.bool true) ∧ Below w.heap.size w w' := by
 subst hzy;obtain ⟨n,xs,a,c,rfl,s0,q0,e0,z0,k0⟩ := h;obtain ⟨m,ys,b,d,rfl,s1,q1,e1,z1,k1⟩ := h';obtain ⟨rfl,rfl⟩ := iv_one (z0.trans z1.symm) q0 q1 e0 e1;obtain ⟨W0,hW⟩ : ∃ W0,(w.alloc (duo (.bool n) (.slice a xs.length c))).alloc (duo (.bool n) (.slice b xs.length d)) = W0 := ⟨_,rfl⟩
 have b0 := (zYA w (duo (.bool n) (.slice a xs.length c)) (duo (.bool n) (.slice b xs.length d))).1;rw [hW] at b0;have P2 : Hid (Duo W0 w.heap.size (.bool n) (.slice a xs.length c)) := by unfold Hid;rw [← hW];exact (Duo.new w _ _).later (by simp) _
 have P3 : Hid (Duo W0 (w.heap.size + 1) (.bool n) (.slice b xs.length d)) := by
  unfold Hid;rw [← hW];have := Duo.new (w.alloc (duo (.bool n) (.slice a xs.length c))) (.bool n) (.slice b xs.length d)
  simpa using this
 have HC := hid (same_yes (s0.now b0) (s1.now b0) rfl);have B0 := hid b0;have x1 := P2.out.c1;have y1 := P3.out.c1;rw [← hW] at x1 y1;have EW := hid hW;have hq : (n == n) = true := by simp
 clear s0 s1 z0 z1 b0 q0 q1 e0 e1 hW;go_enter Tryz.func46,Tryz.ntmps46;go_wp2_with fail;rw [EW.out];refine HC.out.mono ?_;rintro e w1 ⟨rfl,b1⟩;have B1 := hid (below_step B0.out b1);have x0 := (P2.out.step b1).c0;have y0 := (P3.out.step b1).c0;clear b1 HC x1 y1 EW;go_wp2;go_ret;exact ⟨rfl,B1.out⟩
theorem alikeRowsX18_yes {w : World} {B B' k l : Nat} {va vb : Value} {ps qs : List (Value × Value)} {zs : List Int} (ha : Prs B w va ps) (hza : Zcs w ps zs k) (hb : Prs B' w vb qs) (hzb : Zcs w qs zs l) :
  Calls Tryz.prog 22 #[va,vb] w fun e w' => e = .returned (.bool true) ∧ Below w.heap.size w w' := by
 have A0 := hid ha;have B0 := hid hb;have ZA := hid hza;have ZB := hid hzb;obtain ⟨aa,ca,rfl,hca,hna,-,hfa⟩ := ha.form;obtain ⟨ab,cb,rfl,hcb,hnb,-,hfb⟩ := hb.form;obtain ⟨n,hn⟩ : ∃ n,zs.length = n := ⟨_,rfl⟩
 rw [hza.1,hn] at A0 hca hna ⊢;rw [hzb.1,hn] at B0 hcb hnb ⊢;have FA : Hid (n ≠ 0 → ∃ b off,aa = some ⟨b,off,none⟩) := fun h => by
  obtain ⟨b,off,e,-⟩ := hfa (fun e => h (by rw [← hn,← hza.1,e];rfl));exact ⟨b,off,e⟩
 have FB : Hid (n ≠ 0 → ∃ b off,ab = some ⟨b,off,none⟩) := fun h => by
  obtain ⟨b,off,e,-⟩ := hfb (fun e => h (by rw [← hn,← hzb.1,e];rfl));exact ⟨b,off,e⟩
 have HN := hid hn;have H0 : Hid (zJI w n n (.int .i64 0) w) := ⟨0,rfl,Nat.zero_le _,by omega,Below.refl _ _⟩
 have q0 : ((n : Int) != (n : Int)) = false := by simp
 clear ha hb hza hzb hfa hfb hn;go_enter Tryz.func22,Tryz.ntmps22;go_wp2_with fail
 go_loopg [5] n (fun gk s5 wx => zJI w n gk s5 wx)
 case atStart => exact H0.out
 case round =>
  clear H0;obtain ⟨i,rfl,hin,hg,hG⟩ := hrel;have G := hid hG;have HG := hid hg;clear hG hg
  by_cases hlt : i < n
  ·have hlt' : (i : Int) < (n : Int) := by omega
   obtain ⟨b1,o1,rfl⟩ := FA.out (by omega);obtain ⟨b2,o2,rfl⟩ := FB.out (by omega);obtain ⟨nf,xf,adf,qf,k0,k1,zf⟩ := Zcs.at9 (A0.out.now G.out) (ZA.out.now G.out) (i := i) (by rw [HN.out];exact hlt);obtain ⟨ng,xg,adg,qg,k2,k3,zg⟩ := Zcs.at9 (B0.out.now G.out) (ZB.out.now G.out) (i := i) (by rw [HN.out];exact hlt);have HS : Hid (∀ w',Below wr.heap.size wr w' → Calls Tryz.prog 46 #[.agg #[.bool nf,.slice adf xf.length qf],.agg #[.bool ng,.slice adg xg.length qg]] w' fun e w'' => e = .returned (.bool true) ∧ Below w'.heap.size w' w'') := fun w' h => alikeX18_yes (zf.now h) (zg.now h) rfl
   clear zf zg;have hw := zVA (i := i) (by omega);go_wp2_with fail;have KB : Hid (∀ w',Below wr.heap.size wr w' → w'.cell? ⟨b1,o1 + i * 2,none⟩ = some (.bool nf) ∧ w'.cell? ⟨b1,o1 + i * 2 + 1,none⟩ = some (.slice adf xf.length qf) ∧ w'.cell? ⟨b2,o2 + i * 2,none⟩ = some (.bool ng) ∧ w'.cell? ⟨b2,o2 + i * 2 + 1,none⟩ = some (.slice adg xg.length qg)) := fun w' h => ⟨cnow h k0,cnow h k1,cnow h k2,cnow h k3⟩
   refine zFA (fun w' => w'.cell? ⟨b1,o1 + i * 2,none⟩ = some (.bool nf) ∧ w'.cell? ⟨b1,o1 + i * 2 + 1,none⟩ = some (.slice adf xf.length qf) ∧ w'.cell? ⟨b2,o2 + i * 2,none⟩ = some (.bool ng) ∧ w'.cell? ⟨b2,o2 + i * 2 + 1,none⟩ = some (.slice adg xg.length qg)) 9 (by kernel_rfl) ?_;obtain ⟨D1,hD⟩ : ∃ D1,wr.drew = D1 := ⟨_,rfl⟩
   have GB : Hid (Below wr.heap.size wr D1) := by unfold Hid;rw [← hD];exact (Below.refl _ _).drew
   rw [hD];clear hD;refine zCA (i := 0) (oi := ⟨some 18,.move (.tmp 0),22, "law.go:95",#[],none⟩) (v := (.slice (some ⟨b1,o1,none⟩) n ca)) rfl (by kernel_rfl) (fun _ _ _ h => h) (Or.inl ⟨by rfl,?_⟩) (KB.out _ GB.out) ?_
   ·intro w hSw;(try dsimp only at hSw);go_simp
   simp only [Act.put,sIb,sC0,sC1];refine zCA (i := 1) (oi := ⟨some 19,.move (.tmp 5),3, "law.go:95",#[],none⟩) (v := (.int .i64 (i : Int))) rfl (by kernel_rfl) (fun _ _ _ h => h) (Or.inl ⟨by rfl,?_⟩) (KB.out _ GB.out) ?_
   ·intro w hSw;(try dsimp only at hSw);go_simp
   simp only [Act.put,sIb,sC0,sC1];refine zCA (i := 2) (oi := ⟨some 20,.indexAddr 22 (.tmp 18) (.tmp 19),0, "law.go:95",#[⟨0,.data⟩,⟨1,.data⟩],none⟩) (v := (.pointer (some ⟨b1,o1 + i * 2,none⟩))) rfl (by kernel_rfl) (fun _ _ _ h => h) (Or.inl ⟨by rfl,?_⟩) (KB.out _ GB.out) ?_
   ·intro w hSw;(try dsimp only at hSw);go_simp
   simp only [Act.put,sIb,sC0,sC1];refine zCA (i := 3) (oi := ⟨some 21,.load 40 (.tmp 20),40, "law.go:95",#[⟨2,.data⟩],none⟩) (v := (.agg #[.bool nf,.slice adf xf.length qf])) rfl (by kernel_rfl) (fun _ _ _ h => h) (Or.inl ⟨by rfl,?_⟩) (KB.out _ GB.out) ?_
   ·intro w hSw;(try dsimp only at hSw);go_simp
   simp only [Act.put,sIb,sC0,sC1];refine zCA (i := 4) (oi := ⟨some 22,.move (.tmp 1),22, "law.go:95",#[],none⟩) (v := (.slice (some ⟨b2,o2,none⟩) n cb)) rfl (by kernel_rfl) (fun _ _ _ h => h) (Or.inl ⟨by rfl,?_⟩) (KB.out _ GB.out) ?_
   ·intro w hSw;(try dsimp only at hSw);go_simp
   simp only [Act.put,sIb,sC0,sC1];refine zCA (i := 5) (oi := ⟨some 23,.move (.tmp 5),3, "law.go:95",#[],none⟩) (v := (.int .i64 (i : Int))) rfl (by kernel_rfl) (fun _ _ _ h => h) (Or.inl ⟨by rfl,?_⟩) (KB.out _ GB.out) ?_
   ·intro w hSw;(try dsimp only at hSw);go_simp
   simp only [Act.put,sIb,sC0,sC1];refine zCA (i := 6) (oi := ⟨some 24,.indexAddr 22 (.tmp 22) (.tmp 23),0, "law.go:95",#[⟨4,.data⟩,⟨5,.data⟩],none⟩) (v := (.pointer (some ⟨b2,o2 + i * 2,none⟩))) rfl (by kernel_rfl) (fun _ _ _ h => h) (Or.inl ⟨by rfl,?_⟩) (KB.out _ GB.out) ?_
   ·intro w hSw;(try dsimp only at hSw);go_simp
   simp only [Act.put,sIb,sC0,sC1];refine zCA (i := 7) (oi := ⟨some 25,.load 40 (.tmp 24),40, "law.go:95",#[⟨6,.data⟩],none⟩) (v := (.agg #[.bool ng,.slice adg xg.length qg])) rfl (by kernel_rfl) (fun _ _ _ h => h) (Or.inl ⟨by rfl,?_⟩) (KB.out _ GB.out) ?_
   ·intro w hSw;(try dsimp only at hSw);go_simp
   simp only [Act.put,sIb,sC0,sC1];refine zAA (i := 8) (o := ⟨some 26,.call { callee := .value (.func 46),args := #[.tmp 21,.tmp 25],argTypes := #[40,40] },4, "law.go:95",#[⟨3,.data⟩,⟨7,.data⟩],none⟩) (by kernel_rfl) rfl (fun K hK => ?_);go_simp;go_at_call 46;refine (HS.out _ GB.out).mono ?_;rintro e w2 ⟨rfl,b⟩;have lz2 := (show Below _ _ _ from b).size;replace GB := hid (below_step GB.out b);have G1 := hid (below_step G.out GB.out);clear b;refine hK.out _ _ (fun _ => KB.out _ GB.out) ?_;clear hK;refine zAA (i := 9) (o := ⟨some 6,.assign (.tmp 26),4, "law.go:95",#[⟨8,.data⟩,⟨8,.chain⟩,⟨0,.phase⟩,⟨1,.phase⟩,⟨2,.phase⟩,⟨3,.phase⟩,⟨4,.phase⟩,⟨5,.phase⟩,⟨6,.phase⟩,⟨7,.phase⟩,⟨8,.phase⟩],none⟩) (by kernel_rfl) rfl (fun K hK => ?_);go_simp;refine hK.out _ _ (fun h => absurd h (by decide)) ?_;clear hK
   try simp only [Act.put]
   refine zDA (by kernel_rfl) ?_ _;have HN1 : Hid (zJI w n (n - (i + 1)) (.int .i64 ((i + 1 : Nat) : Int)) w2) := ⟨i + 1,rfl,by omega,rfl,G1.out⟩
   have HMM : Hid (n - (i + 1) < gk) := by unfold Hid;rw [HG.out];omega
   clear HS G HG G1 GB KB;go_wp2_with fail;go_roundg (n - (i + 1))
   case rel => exact HN1.out
   case measure => exact HMM.out
  ·have hlt' : ¬ (i : Int) < (n : Int) := by omega
   clear HG;go_wp2;go_ret;exact ⟨rfl,G.out⟩
theorem zlA {w : World} {va vb : Value} {r c k l : Nat} {zs ys : List Int} (ha : Mc w va r c zs k) (hb : Mc w vb r c ys l) (he : zs = ys) :
  Calls Tryz.prog 8 #[va,vb] w fun e w' => e = .returned (.bool true) ∧ Below w.heap.size w w' := by
 subst he;obtain ⟨ata,pa,rfl,pa1,pa2,-,-,-⟩ := ha;obtain ⟨atb,pb,rfl,pb1,pb2,-,-,-⟩ := hb;obtain ⟨W0,hW⟩ : ∃ W0,(w.alloc (matO r c ata)).alloc (matO r c atb) = W0 := ⟨_,rfl⟩
 obtain ⟨b0,sz0⟩ := zYA w (matO r c ata) (matO r c atb);rw [hW] at b0;have qa : Cel W0 w.heap.size 24 (matc r c ata) := by
  rw [← hW];exact (Cel.new w 24 (matc r c ata)).step ((Below.refl _ _).alloc (Nat.le_refl _) _)
 have qb : Cel W0 (w.heap.size + 1) 24 (matc r c atb) := by
  rw [← hW];have := Cel.new (w.alloc (matO r c ata)) 24 (matc r c atb)
  simpa using this
 have HS := hid (alikeRowsX18_yes (pa1.now b0) (pa2.now b0) (pb1.now b0) (pb2.now b0));obtain ⟨aa,ca,rfl,-,-,-,-⟩ := pa1.form;obtain ⟨ab,cb,rfl,-,-,-,-⟩ := pb1.form;have x2 := qa.at (i := 2) rfl;have y2 := qb.at (i := 2) rfl;rw [← hW] at x2 y2;have QA := hid qa;have QB := hid qb;have q0 : ((r : Int) == (r : Int)) = true := by simp
 have q1 : ((c : Int) == (c : Int)) = true := by simp
 have G0 := hid b0;have EW := hid hW;clear b0 sz0 hW qa qb pa1 pa2 pb1 pb2;go_enter Tryz.func8,Tryz.ntmps8;go_wp2_with fail;rw [EW.out];refine HS.out.mono ?_;rintro e w1 ⟨rfl,b⟩;have x0 := (QA.out.step b).at (i := 0) rfl;have x1 := (QA.out.step b).at (i := 1) rfl;have y0 := (QB.out.step b).at (i := 0) rfl;have y1 := (QB.out.step b).at (i := 1) rfl;have G1 := hid (below_step G0.out b);clear b HS x2 y2 EW QA QB;go_wp2;go_ret;exact ⟨rfl,G1.out⟩
theorem zeC {w : World} {r c : Int} {a : Option Addr} {l cap : Nat} (hl : l ≤ 1048576) : Calls Tryz.prog 5 #[.agg #[.int .i64 r,.int .i64 c,.slice a l cap]] w (zXC w r c l) := by
 have b0 := (alo1 w (.cells #[.int .i64 r,.int .i64 c,.slice a l cap] 24)).1;have P1 := Cel.new w 24 [.int .i64 r,.int .i64 c,.slice a l cap];have x0 := P1.at (i := 0) rfl;have x1 := P1.at (i := 1) rfl;have x2 := P1.at (i := 2) rfl;have G0 := hid b0;clear b0 P1
 by_cases h1 : 0 ≤ r
 case neg =>
  have FIN : Hid (zXC w r c l (.returned (.bool false)) (w.alloc (.cells #[.int .i64 r,.int .i64 c,.slice a l cap] 24))) := ⟨false,rfl,⟨(fun e => by cases e),(fun e => by unfold Snd at e;omega)⟩,G0.out⟩
  go_enter Tryz.func5,Tryz.ntmps5;go_wp2;go_ret;exact FIN.out
 by_cases h2 : r ≤ 64
 case neg =>
  have FIN : Hid (zXC w r c l (.returned (.bool false)) (w.alloc (.cells #[.int .i64 r,.int .i64 c,.slice a l cap] 24))) := ⟨false,rfl,⟨(fun e => by cases e),(fun e => by unfold Snd at e;omega)⟩,G0.out⟩
  go_enter Tryz.func5,Tryz.ntmps5;go_wp2;go_ret;exact FIN.out
 by_cases h3 : 0 ≤ c
 case neg =>
  have FIN : Hid (zXC w r c l (.returned (.bool false)) (w.alloc (.cells #[.int .i64 r,.int .i64 c,.slice a l cap] 24))) := ⟨false,rfl,⟨(fun e => by cases e),(fun e => by unfold Snd at e;omega)⟩,G0.out⟩
  go_enter Tryz.func5,Tryz.ntmps5;go_wp2;go_ret;exact FIN.out
 by_cases h4 : c ≤ 64
 case neg =>
  have FIN : Hid (zXC w r c l (.returned (.bool false)) (w.alloc (.cells #[.int .i64 r,.int .i64 c,.slice a l cap] 24))) := ⟨false,rfl,⟨(fun e => by cases e),(fun e => by unfold Snd at e;omega)⟩,G0.out⟩
  go_enter Tryz.func5,Tryz.ntmps5;go_wp2;go_ret;exact FIN.out
 have hm : 0 ≤ r * c ∧ r * c ≤ 64 * 64 := ⟨Int.mul_nonneg h1 h3,Int.mul_le_mul h2 h4 h3 (by omega)⟩
 have hw : IntKind.i64.wrap (r * c) = r * c := by rw [zZA] <;> omega
 obtain ⟨q,hq⟩ : ∃ q,r * c = q := ⟨_,rfl⟩
 have HQ := hid hq;replace hw : IntKind.i64.wrap (r * c) = q := hw.trans hq;have hw2 := hw;rw [IntKind.wrap_i64] at hw2;rw [hq] at hm
 by_cases h5 : (l : Int) = q
 case neg =>
  have h6 : ((l : Int) == q) = false := by simpa using h5
  have FIN : Hid (zXC w r c l (.returned (.bool false)) (w.alloc (.cells #[.int .i64 r,.int .i64 c,.slice a l cap] 24))) := ⟨false,rfl,⟨(fun e => by cases e),(fun e => by unfold Snd at e;rw [HQ.out] at e;exact absurd e.2.2.2.2 h5)⟩,G0.out⟩
  clear hq;go_enter Tryz.func5,Tryz.ntmps5;go_wp2;go_ret;exact FIN.out
 case pos =>
  have h6 : ((l : Int) == q) = true := by simpa using h5
  have FIN : Hid (zXC w r c l (.returned (.bool true)) (w.alloc (.cells #[.int .i64 r,.int .i64 c,.slice a l cap] 24))) := ⟨true,rfl,⟨fun _ => ⟨h1,h2,h3,h4,h5.trans HQ.out.symm⟩,fun _ => rfl⟩,G0.out⟩
  clear hq;go_enter Tryz.func5,Tryz.ntmps5;go_wp2;go_ret;exact FIN.out
end Go.Proofs.YtmnecbniappnaaaGreat
