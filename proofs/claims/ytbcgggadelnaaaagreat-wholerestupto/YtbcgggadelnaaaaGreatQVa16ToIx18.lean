/-
 QVa16ToIx18: Va16, Ar18, Ix18, joined.
-/
import Derived.Test.YtbcgggadelnaaaaGreatQProd9ToOpenM9
import Derived.Test.YtbcgggadelnaaaaGreatQLm6ToChkN9
import Derived.Test.YtbcgggadelnaaaaGreatQRe18
import Derived.Test.YtbcgggadelnaaaaGreatQTailLToTo18
import Derived.Test.YtbcgggadelnaaaaGreatQZOnesToZCmp

set_option maxRecDepth 100000
set_option maxHeartbeats 6400000
set_option linter.unusedVariables false
set_option linter.unusedSimpArgs false
namespace Go.Proofs.YtbcgggadelnaaaaGreat
open Go.RowKit
def AllZ (w : World) (g : Nat) (zs : List Int) (k : Nat) : Prop := ∃ ps,Arr w g ps ∧ Zcs w ps zs k
theorem AllZ.step {w w' : World} {g k : Nat} {zs : List Int} (h : AllZ w g zs k) (hb : Below w.heap.size w w') : AllZ w' g zs k := by
 obtain ⟨ps,h1,h2⟩ := h;exact ⟨ps,h1.step hb,h2.now hb⟩
theorem AllZ.put {w : World} {g k i : Nat} {zs : List Int} {x y : Value} {z : Int} (h : AllZ w g zs k) (hi : i < zs.length) (hz : Zc w (.agg #[x,y]) z k) : AllZ ((w.setCell ⟨g,i * 2,none⟩ x).setCell ⟨g,i * 2 + 1,none⟩ y) g (zs.set i z) k := by
 obtain ⟨ps,h1,h2,h3⟩ := h;have hw := h1.wk (i := i) (by omega) x y;refine ⟨ps.set i (x,y),h1.put (by omega) hz.zi.isI,by simpa using h2,fun j p z' hp hz' => ?_⟩
 by_cases q : j = i
 ·subst q
  rw [List.getElem?_set_self (by omega),Option.some.injEq] at hp;rw [List.getElem?_set_self (by omega),Option.some.injEq] at hz';subst hp hz';exact hz.wk hw
 ·rw [List.getElem?_set_ne (by omega)] at hp hz'
  exact (h3 j p z' hp hz').wk hw
theorem AllZ.at {w : World} {g k i : Nat} {zs : List Int} (h : AllZ w g zs k) (hi : i < zs.length) : ∃ n,∃ xs : List Int,∃ a c,w.cell? ⟨g,i * 2,none⟩ = some (.bool n) ∧ w.cell? ⟨g,i * 2 + 1,none⟩ = some (.slice a xs.length c) ∧ w.frozen? ⟨g,i * 2,none⟩ = false ∧ w.frozen? ⟨g,i * 2 + 1,none⟩ = false ∧ Zc w (.agg #[.bool n,.slice a xs.length c]) (zs.getD i 0) k := by
 obtain ⟨ps,h1,h2,h3⟩ := h;have hp : ps[i]? = some (ps[i]'(by omega)) := List.getElem?_eq_getElem (by omega);have q := h1.at hp;have hz := h3 i _ _ hp (List.getElem?_eq_getElem hi);have hz' := hz;obtain ⟨n,xs,a,c,e,-⟩ := hz;simp only [Value.agg.injEq,Array.mk.injEq,List.cons.injEq,and_true] at e;obtain ⟨e1,e2⟩ := e;rw [e1,e2] at q hz';refine ⟨n,xs,a,c,q.1,q.2,h1.1.fz _,h1.1.fz _,?_⟩;have e3 : zs.getD i 0 = zs[i] := by simp [hi]
 rw [e3];exact hz'
theorem Fil.doneA16 {w : World} {g n : Nat} {F : Nat → Int} {k : Nat} (h : Fil w g n n F k) : AllZ w g ((List.range n).map F) k := by
 obtain ⟨ps,h1,rfl,h3⟩ := h;refine ⟨ps,h1,by simp,fun j p z hp hz => ?_⟩;have hj : j < ps.length := (List.getElem?_eq_some_iff.1 hp).1;rw [List.getElem?_map,List.getElem?_range hj,Option.map_some,Option.some.injEq] at hz;subst hz;exact h3 j p hj hp
def zqG (w : World) (zs : List Int) (k : Nat) (e : Ending) (w' : World) : Prop := ∃ g,e = .returned (.slice (some ⟨g,0,none⟩) zs.length zs.length) ∧ w.heap.size ≤ g ∧ AllZ w' g zs k ∧ Below w.heap.size w w'
theorem eachDotsA_any {w : World} {B pb k l : Nat} {v xv : Value} {pss : List (List (Value × Value))} {zss : List (List Int)} {xs : List Int} (hv : Prr B w v pss) (hz : Ziss w pss zss l) (hp : w.cell? ⟨pb,0,none⟩ = some xv) (hx : Zl w xv xs k) (he : ∀ ys ∈ zss,ys.length = xs.length) (hk : k + l + xs.length < 35184372088832) :
  Calls Tryz.prog 88 #[v,fnDots pb] w (zqG w (zss.map (dotv xs)) (k + l + xs.length)) := by
 have V0 := hid hv;have X0 := hid hx;have Z0 := hid hz;have C0 := hid hp;have HE : Hid (∀ j,j < zss.length → (zss.getD j []).length = xs.length) := fun j hj => by
  have e : zss.getD j [] = zss[j] := by simp [hj]
  rw [e];exact he _ (List.getElem_mem hj)
 have HK := hid hk;have HMP : Hid (zss.map (dotv xs) = (List.range zss.length).map fun j => dotv xs (zss.getD j [])) := by
  unfold Hid
  apply List.ext_getElem
  ·simp
  ·intro j h1 h2
   simp at h1;simp [h1]
 obtain ⟨a0,c0,rfl,hc0,hn0,hf0⟩ := hv.form;obtain ⟨n,hn⟩ : ∃ n,pss.length = n := ⟨_,rfl⟩
 have hzl := hz.1;rw [hn] at V0 hc0 hn0 hzl ⊢;rw [← hzl] at HMP HE;have HN := hid hn;have F0 := hid hf0;clear hv hx hz hp he hk hf0 hn hzl;generalize zss.map (dotv xs) = RS at *;go_enter Tryz.func88,Tryz.ntmps88;go_wp2_with (at_make;refine zOA _ rfl _ _ rfl _ _ n n rfl rfl rfl rfl (Nat.le_refl _) (by omega) ?_)
 intro w1 hrow hb1 hsz1;have H0 : Hid (zeE w w.heap.size n (fun j => dotv xs (zss.getD j [])) (k + l + xs.length) n (.int .i64 0) w1) := ⟨0,rfl,Nat.zero_le _,by omega,Fil.start hrow _ _,hb1⟩
 clear hrow hb1 hsz1;go_wp2_with fail
 go_loopg [13] n (fun gk s13 wx => zeE w w.heap.size n (fun j => dotv xs (zss.getD j [])) (k + l + xs.length) gk s13 wx)
 case atStart => exact H0.out
 case round =>
  clear H0;obtain ⟨i,rfl,hin,hg,hfil,hG⟩ := hrel;have FI := hid hfil;have G := hid hG;have HG := hid hg;clear hfil hG hg
  by_cases hlt : i < n
  ·have hlt' : (i : Int) < (n : Int) := by omega
   obtain ⟨b1,o1,rfl⟩ := F0.out (fun e => by have := HN.out;rw [e] at this;simp at this;omega);have hpi : pss[i]? = some (pss[i]'(by rw [HN.out];exact hlt)) := List.getElem?_eq_getElem (by rw [HN.out];exact hlt);obtain ⟨u,k0,pu⟩ := (V0.out.now G.out).at (i := i) hpi;have HS := hid (dots1_any (cnow G.out C0.out) (X0.out.now G.out) (zqD pu ((Z0.out.2 i _ hpi).now G.out)) (HE.out i hlt) HK.out);obtain ⟨au,cu,rfl,-,-,-,-⟩ := pu.form;have hw := zVA (i := i) (by omega);clear hpi pu;go_wp2_with fail;refine HS.out.mono ?_;rintro e w1 ⟨r,rfl,m1,b⟩;have FI1 := hid (FI.out.step b);have G1 := hid (below_step G.out b);have M1 := hid m1.zc;obtain ⟨nr,xr,ar,cr,rfl⟩ := m1.parts;obtain ⟨m0,am,lm,cm,e0,e1,e2,e3⟩ := FI1.out.cells hlt;have HN1 : Hid (zeE w w.heap.size n (fun j => dotv xs (zss.getD j [])) (k + l + xs.length) (n - (i + 1)) (.int .i64 ((i + 1 : Nat) : Int)) ((w1.setCell ⟨w.heap.size,i * 2,none⟩ (.bool nr)).setCell ⟨w.heap.size,i * 2 + 1,none⟩ (.slice ar xr.length cr))) :=
    ⟨i + 1,rfl,by omega,rfl,FI1.out.put hlt M1.out,bset (bset G1.out (Nat.le_refl _)) (Nat.le_refl _)⟩
   have HMM : Hid (n - (i + 1) < gk) := by unfold Hid;rw [HG.out];omega
   clear HS FI G HG FI1 G1 M1 m1 b k0;go_wp2_with fail;go_roundg (n - (i + 1))
   case rel => exact HN1.out
   case measure => exact HMM.out
  ·have hlt' : ¬ (i : Int) < (n : Int) := by omega
   obtain rfl : i = n := by omega
   have p2 := FI.out.doneA16;rw [← HMP.out] at p2;have EL : Hid (RS.length = i) := by unfold Hid;rw [HMP.out];simp
   have FIN : Hid (zqG w RS (k + l + xs.length) (.returned (.slice (some ⟨w.heap.size,0,none⟩) i i)) wr) := ⟨w.heap.size,by rw [EL.out],Nat.le_refl _,p2,G.out⟩
   clear FI G HG p2 EL;go_wp2;go_ret;exact FIN.out
theorem dotsA_any {w : World} {B k l : Nat} {v xv : Value} {pss : List (List (Value × Value))} {zss : List (List Int)} {xs : List Int} (hv : Prr B w v pss) (hz : Ziss w pss zss l) (hx : Zl w xv xs k) (he : ∀ ys ∈ zss,ys.length = xs.length) (hk : k + l + xs.length < 35184372088832) :
  Calls Tryz.prog 48 #[xv,v] w (zqG w (zss.map (dotv xs)) (k + l + xs.length)) := by
 have X0 := hid hx;obtain ⟨a1,c1,rfl,-,-,-⟩ := hx.form9;obtain ⟨W0,hW⟩ : ∃ W0,w.alloc (.cells #[.slice a1 xs.length c1] 22) = W0 := ⟨_,rfl⟩
 obtain ⟨b0,sz0⟩ := alo1 w (.cells #[.slice a1 xs.length c1] 22);rw [hW] at b0 sz0;have hp : W0.cell? ⟨w.heap.size,0,none⟩ = some (.slice a1 xs.length c1) := by rw [← hW];exact (Cel.new w 22 [.slice a1 xs.length c1]).at (i := 0) rfl
 have HC := hid (eachDotsA_any (hv.now b0) (hz.now b0) hp (X0.out.now b0) he hk);obtain ⟨a0,c0,rfl,-,-,-⟩ := hv.form;have G0 := hid b0;have EW := hid hW;clear hv hz hx he hk b0 hW sz0 hp X0;generalize zss.map (dotv xs) = RS at *;generalize k + l + xs.length = kk at *;go_enter Tryz.func48,Tryz.ntmps48;go_wp2_with fail;rw [EW.out];refine HC.out.mono ?_;rintro e w1 ⟨g,rfl,p1,p2,b⟩;have FIN : Hid (zqG w RS kk (.returned (.slice (some ⟨g,0,none⟩) RS.length RS.length)) w1) := ⟨g,rfl,Nat.le_trans G0.out.size p1,p2,below_step G0.out b⟩
 generalize RS.length = RL at *;clear HC G0 EW p1 p2 b;go_wp2;go_ret;exact FIN.out
def vecL (m c : Nat) (xs ys : List Int) : List Int := (colsL m c ys 0).map (dotv xs)
theorem zIC {m c : Nat} {xs ys : List Int} : (vecL m c xs ys).length = c := by simp [vecL,colsL]
def zvH (w : World) (c : Nat) (zs : List Int) (k : Nat) (e : Ending) (w' : World) : Prop := ∃ g,e = .returned (.tuple #[.slice (some ⟨g,0,none⟩) c c,.int .i64 0]) ∧ w.heap.size ≤ g ∧ AllZ w' g zs k ∧ Below w.heap.size w w'
theorem zuD {w : World} {xv v : Value} {m c k l : Nat} {xs ys : List Int} (hx : Zl w xv xs k) (hxl : xs.length = m) (h : Mx w v m c ys l) (hk : k + l + m < 35184372088832) :
  Calls Tryz.prog 18 #[xv,v] w (zvH w c (vecL m c xs ys) (k + l + m)) := by
 have M0 := h;have X0 := hid hx;obtain ⟨at_,ps,rfl,pa1,pa2,pa3,hr,hc⟩ := h;obtain ⟨aa,ca,rfl,-,-,-,-⟩ := pa1.form;obtain ⟨a1,c1,rfl,-,-,-⟩ := hx.form9;have HLA : Hid (ps.length = m * c) := by unfold Hid;rw [pa2.1,pa3]
 obtain ⟨la,hla⟩ : ∃ la,ps.length = la := ⟨_,rfl⟩
 rw [hla] at M0 pa1 ⊢;rw [hxl] at X0 ⊢;obtain ⟨W0,hW⟩ : ∃ W0,w.alloc (matO m c (.slice aa la ca)) = W0 := ⟨_,rfl⟩
 obtain ⟨b0,sz0⟩ := alo1 w (matO m c (.slice aa la ca));rw [hW] at b0 sz0;have pa : Cel W0 w.heap.size 24 (matc m c (.slice aa la ca)) := by rw [← hW];exact Cel.new w _ _
 have PA := hid pa;have HCK := hid (zqB (M0.now b0));have P1 := hid (pa1.now b0);have P2 := hid (pa2.now b0);have P3 := hid pa3;replace X0 := hid (X0.out.now b0);have x0 := pa.at (i := 0) rfl;have x1 := pa.at (i := 1) rfl;have x2 := pa.at (i := 2) rfl;rw [← hW] at x0 x1 x2;have G := hid b0;have EW := hid hW;have HK := hid hk;have HXL := hid hxl;have hmm : ((m : Int) != (m : Int)) = false := by simp
 clear M0 pa1 pa2 pa3 hx b0 sz0 hW pa hk hxl hla;go_enter Tryz.func18,Tryz.ntmps18;go_wp2_with fail;rw [EW.out];clear EW x0 x1 x2;refine HCK.out.mono ?_;rintro e w1 ⟨rfl,b⟩;replace PA := hid (PA.out.step b);replace P1 := hid (P1.out.now b);replace P2 := hid (P2.out.now b);replace X0 := hid (X0.out.now b);replace G := hid (below_step G.out b);have HC := hid (columnsOf_any P1.out HLA.out P2.out.isI hr hc);have x0 := PA.out.at (i := 0) rfl;have x1 := PA.out.at (i := 1) rfl;have x2 := PA.out.at (i := 2) rfl;clear HCK b;go_wp2_with fail;clear x0 x1 x2;refine HC.out.mono ?_;rintro e w2 ⟨u,rfl,pr,b⟩;replace X0 := hid (X0.out.now b);have ZS := hid (ziss_cols (P2.out.now b) P3.out);replace G := hid (below_step G.out b);have HD := hid (dotsA_any pr ZS.out X0.out (fun ys hy => by rw [HXL.out];exact cols_len _ hy) (by rw [HXL.out];exact HK.out));obtain ⟨au,cu,rfl,-,-,-⟩ := pr.form;rw [HXL.out] at HD;have EVL : Hid ((colsL m c ys 0).map (dotv xs) = vecL m c xs ys) := rfl;rw [EVL.out] at HD;have EL : Hid ((vecL m c xs ys).length = c) := zIC;clear HC b P1 P2 X0 pr ZS EVL;generalize vecL m c xs ys = RS at *;generalize (colsL m c ps zBB).length = nc at *;go_wp2_with fail;refine HD.out.mono ?_;rintro e w3 ⟨g,rfl,hg,hz,b⟩;rw [EL.out];have FIN : Hid (zvH w c RS (k + l + m) (.returned (.tuple #[.slice (some ⟨g,0,none⟩) c c,.int .i64 0])) w3) := ⟨g,rfl,Nat.le_trans G.out.size hg,hz,below_step G.out b⟩
 clear HD hg hz b EL G;go_wp2;go_ret2;exact FIN.out
abbrev zMG (bc bp : Nat) : Value := .func (.func 127) #[] #[.pointer (some ⟨bc,0,none⟩),.pointer (some ⟨bp,0,none⟩)]
theorem red1_18 {w : World} {g n k c bc bp : Nat} {F : Nat → Int} {np : Bool} {ap : Option Addr} {lp cp : Nat} {y : Int} (h : Rw17 w g n F k) (hc : c < n) (pc : w.cell? ⟨bc,0,none⟩ = some (.int .i64 (c : Int))) (pp : Duo w bp (.bool np) (.slice ap lp cp)) (hy : Zm 0 w (.agg #[.bool np,.slice ap lp cp]) y k) :
  Calls Tryz.prog 127 #[.slice (some ⟨g,0,none⟩) n n,.pointer (some ⟨bc,0,none⟩),.pointer (some ⟨bp,0,none⟩)] w fun e w' => e = .returned (.bool (!decide (0 ≤ F c ∧ F c < y))) ∧ Below w.heap.size w w' := by
 obtain ⟨m,a,l,q,k0,k1,-,-,zf⟩ := h.at hc;obtain ⟨bb,hbb⟩ : ∃ bb,decide (0 ≤ F c ∧ F c < y) = bb := ⟨_,rfl⟩
 have HSF : Hid (∀ w',Below w.heap.size w w' → Calls Tryz.prog 128 #[.agg #[.bool m,.slice a l q],.agg #[.bool np,.slice ap lp cp]] w' fun e w'' => e = .returned (.bool bb) ∧ Below w'.heap.size w' w'') := fun w' b => by
  have := zbD (zf.now b) (hy.now b);rw [hbb] at this;exact this
 rw [hbb];have hc' : (c : Int) < (n : Int) := by omega
 have p0 := pp.c0;have p1 := pp.c1;clear h hy zf pp hbb;go_enter Tryz.func127,Tryz.ntmps127;go_wp2_with fail;have KB : Hid (∀ w',Below w.heap.size w w' → w'.cell? ⟨bc,0,none⟩ = some (.int .i64 (c : Int)) ∧ w'.cell? ⟨g,c * 2,none⟩ = some (.bool m) ∧ w'.cell? ⟨g,c * 2 + 1,none⟩ = some (.slice a l q) ∧ w'.cell? ⟨bp,0,none⟩ = some (.bool np) ∧ w'.cell? ⟨bp,1,none⟩ = some (.slice ap lp cp)) := fun w' h => ⟨cnow h pc,cnow h k0,cnow h k1,cnow h p0,cnow h p1⟩
 refine zEA (fun w' => w'.cell? ⟨bc,0,none⟩ = some (.int .i64 (c : Int)) ∧ w'.cell? ⟨g,c * 2,none⟩ = some (.bool m) ∧ w'.cell? ⟨g,c * 2 + 1,none⟩ = some (.slice a l q) ∧ w'.cell? ⟨bp,0,none⟩ = some (.bool np) ∧ w'.cell? ⟨bp,1,none⟩ = some (.slice ap lp cp)) 7 (by kernel_rfl) ?_;obtain ⟨D1,hD⟩ : ∃ D1,w.drew = D1 := ⟨_,rfl⟩
 have GB : Hid (Below w.heap.size w D1) := by unfold Hid;rw [← hD];exact (Below.refl _ _).drew
 rw [hD];clear hD;refine zFA [(0,(.slice (some ⟨g,0,none⟩) n n)),(1,(.int .i64 (c : Int))),(2,(.pointer (some ⟨g,c * 2,none⟩))),(3,(.agg #[.bool m,.slice a l q])),(4,(.agg #[.bool np,.slice ap lp cp]))] 5 ?_ (KB.out _ GB.out) ?_
 ·simp only [zMA,gA9,g09,g19,Act.put,sI9,s09,s19]
  (repeat' (first | exact trivial | refine And.intro (Or.inl ⟨by rfl,?_⟩) ?_)) <;> (intro w hSw;(try dsimp only at hSw);go_simp)
 simp only [actV,gA9,g09,g19,Act.put,sI9,s09,s19];refine zAA (i := 5) (o := ⟨some 10,.call { callee := .value (.func 128),args := #[.tmp 8,.tmp 9],argTypes := #[51,51] },4, "lines.go:75",#[⟨3,.data⟩,⟨4,.data⟩],none⟩) (by kernel_rfl) rfl (fun K hK => ?_);go_simp;go_at_call 128;refine (HSF.out _ GB.out).mono ?_;rintro e w2 ⟨rfl,b⟩;have lz2 := (show Below _ _ _ from b).size;replace GB := hid (below_step GB.out b);have G := GB;clear b;refine hK.out _ _ (fun _ => KB.out _ GB.out) ?_;clear hK;refine zFA [(6,(.bool (!bb)))] 1 ?_ (KB.out _ GB.out) ?_
 ·simp only [zMA,gA9,g09,g19,Act.put,sI9,s09,s19]
  (repeat' (first | exact trivial | refine And.intro (Or.inl ⟨by rfl,?_⟩) ?_)) <;> (intro w hSw;(try dsimp only at hSw);go_simp)
 simp only [actV,gA9,g09,g19,Act.put,sI9,s09,s19];refine zAA (i := 7) (o := ⟨some 4,.assign (.tmp 11),4, "lines.go:75",#[⟨6,.data⟩,⟨5,.chain⟩,⟨0,.phase⟩,⟨1,.phase⟩,⟨2,.phase⟩,⟨3,.phase⟩,⟨4,.phase⟩,⟨5,.phase⟩,⟨6,.phase⟩],none⟩) (by kernel_rfl) rfl (fun K hK => ?_);go_simp;refine hK.out _ _ (fun h => absurd h (by decide)) ?_;clear hK
 try simp only [Act.put]
 refine zDA (by kernel_rfl) ?_ _;clear GB KB HSF k0 k1 p0 p1 pc;go_wp2;go_ret;exact ⟨rfl,G.out⟩
def zhH (w : World) (X : Nat → Nat → Int) (c : Nat) (y : Int) (n gk : Nat) (s : Value) (wx : World) : Prop := ∃ i : Nat,s = .int .i64 (i : Int) ∧ i ≤ n ∧ gk = n - i ∧ (∀ t,t < i → 0 ≤ X t c ∧ X t c < y) ∧ Below w.heap.size w wx
def ztG (w : World) (X : Nat → Nat → Int) (c : Nat) (y : Int) (n : Nat) (e : Ending) (w' : World) : Prop := ∃ r : Int,e = .returned (.int .i64 r) ∧ (r < 0 ↔ ∀ t,t < n → 0 ≤ X t c ∧ X t c < y) ∧ Below w.heap.size w w'
theorem indexR18 {w : World} {B m n k c bc bp Lb cap i0 : Nat} {gs : Nat → Nat} {X : Nat → Nat → Int} {np : Bool} {ap : Option Addr} {lp cp : Nat} {y : Int} (h : Sh17 B w (.slice (some ⟨Lb,0,none⟩) m cap) m n gs X k) (hi0 : i0 ≤ m) (hm : m ≤ 64) (hc : c < n) (pc : Cel w bc 3 [.int .i64 (c : Int)]) (pp : Duo w bp (.bool np) (.slice ap lp cp)) (hy : Zm 0 w (.agg #[.bool np,.slice ap lp cp]) y k) :
  Calls Tryz.prog 144 #[.slice (some ⟨Lb,0,none⟩) i0 cap,zMG bc bp] w (ztG w X c y i0) := by
 have HSH := hid h;have HPC := hid pc;have HPP := hid pp;have HY := hid hy;have HHC := hid hc;clear h pc pp hy;have H0 : Hid (zhH w X c y i0 i0 (.int .i64 0) w) := ⟨0,rfl,Nat.zero_le _,rfl,fun j hj => by omega,Below.refl _ _⟩
 go_enter Tryz.func144,Tryz.ntmps144;go_wp2_with fail
 go_loopg [8] i0 (fun g s8 wx => zhH w X c y i0 g s8 wx)
 case atStart => exact H0.out
 case round =>
  clear H0;obtain ⟨i,rfl,hin,hg,hz,bl⟩ := hrel;have HG := hid hg;have HZ := hid hz;have BL := hid bl;clear hg hz bl
  by_cases hlt : i < i0
  ·have hlt' : (i : Int) < (i0 : Int) := by omega
   have sh := HSH.out.now BL.out;have k0 := sh.lineS (i := i) (by omega);have HS := hid (red1_18 (sh.2.2 i (by omega)).2 HHC.out ((HPC.out.step BL.out).at (i := 0) rfl) (HPP.out.step BL.out) (HY.out.now BL.out));have hw := zVA (i := i) (by omega);clear sh
   by_cases hko : 0 ≤ X i c ∧ X i c < y
   ·rw [decide_eq_true hko] at HS
    have HKO := hid hko;clear hko;go_wp2_with fail;refine HS.out.mono ?_;rintro e w1 ⟨rfl,b⟩;have HN1 : Hid (zhH w X c y i0 (i0 - (i + 1)) (.int .i64 ((i + 1 : Nat) : Int)) w1) := ⟨i + 1,rfl,by omega,rfl,fun j hj => by
     by_cases q : j < i
     ·exact HZ.out j q
     ·obtain rfl : j = i := by omega
      exact HKO.out,below_step BL.out b⟩
    have HMM : Hid (i0 - (i + 1) < gk) := by unfold Hid;rw [HG.out];omega
    clear HS HG HZ k0 b HKO;go_wp2_with fail;go_roundg (i0 - (i + 1))
    case rel => exact HN1.out
    case measure => exact HMM.out
   ·rw [decide_eq_false hko] at HS
    have HKO := hid hko;clear hko;go_wp2_with fail;refine HS.out.mono ?_;rintro e w1 ⟨rfl,b⟩;have FIN : Hid (ztG w X c y i0 (.returned (.int .i64 (i : Int))) w1) := ⟨(i : Int),rfl,⟨fun h => absurd h (by omega),fun h => absurd (h i hlt) HKO.out⟩,below_step BL.out b⟩
    clear HS HG HZ k0 b HKO;go_wp2;go_ret;exact FIN.out
  ·have hlt' : ¬ (i : Int) < (i0 : Int) := by omega
   have FIN : Hid (ztG w X c y i0 (.returned (.int .i64 (-1))) wr) := ⟨-1,rfl,⟨fun _ t ht => HZ.out t (by omega),fun _ => by omega⟩,BL.out⟩
   clear HG HZ;go_wp2;go_ret;exact FIN.out
def zBI (w : World) (X : Nat → Nat → Int) (c : Nat) (y : Int) (n : Nat) (e : Ending) (w' : World) : Prop := ∃ bc : Bool,e = .returned (.bool bc) ∧ (bc = false ↔ ∀ t,t < n → 0 ≤ X t c ∧ X t c < y) ∧ Below w.heap.size w w'
theorem containsR18 {w : World} {c bc bp Lb cap i0 : Nat} {X : Nat → Nat → Int} {y : Int} (h : Calls Tryz.prog 144 #[.slice (some ⟨Lb,0,none⟩) i0 cap,zMG bc bp] w (ztG w X c y i0)) :
  Calls Tryz.prog 126 #[.slice (some ⟨Lb,0,none⟩) i0 cap,zMG bc bp] w (zBI w X c y i0) := by
 have HI := hid h;clear h;go_enter Tryz.func126,Tryz.ntmps126;go_wp2_with fail;refine HI.out.mono ?_;rintro e w1 ⟨r,rfl,hr,b⟩;have FIN : Hid (zBI w X c y i0 (.returned (.bool (decide (0 ≤ r)))) w1) := ⟨_,rfl,by rw [decide_eq_false_iff_not,Int.not_le];exact hr,b⟩
 clear HI hr b;go_wp2;go_ret;exact FIN.out
def zAI (w : World) (X : Nat → Nat → Int) (c : Nat) (y : Int) (n : Nat) (e : Ending) (w' : World) : Prop := ∃ bc : Bool,e = .returned (.bool bc) ∧ (bc = true ↔ ∀ t,t < n → 0 ≤ X t c ∧ X t c < y) ∧ Below w.heap.size w w'
theorem areReduced18 {w : World} {B m n k c Lb cap i0 : Nat} {gs : Nat → Nat} {X : Nat → Nat → Int} {np : Bool} {ap : Option Addr} {lp cp : Nat} {y : Int} (h : Sh17 B w (.slice (some ⟨Lb,0,none⟩) m cap) m n gs X k) (hi0 : i0 ≤ m) (hm : m ≤ 64) (hc : c < n) (hy : Zm 0 w (.agg #[.bool np,.slice ap lp cp]) y k) :
  Calls Tryz.prog 111 #[.slice (some ⟨Lb,0,none⟩) i0 cap,.int .i64 (c : Int),.agg #[.bool np,.slice ap lp cp]] w (zAI w X c y i0) := by
 obtain ⟨W0,hW⟩ : ∃ W0,(w.alloc (.cells #[.int .i64 (c : Int)] 3)).alloc (duo (.bool np) (.slice ap lp cp)) = W0 := ⟨_,rfl⟩
 obtain ⟨b0,sz0⟩ := zXA w (.cells #[.int .i64 (c : Int)] 3) (duo (.bool np) (.slice ap lp cp));rw [hW] at b0 sz0;have pc : Cel W0 w.heap.size 3 [.int .i64 (c : Int)] := by
  rw [← hW];exact (Cel.new w 3 [.int .i64 (c : Int)]).step ((Below.refl _ _).alloc (Nat.le_refl _) _)
 have pp : Duo W0 (w.heap.size + 1) (.bool np) (.slice ap lp cp) := by rw [← hW];exact zGA (by simp)
 have HC := hid (containsR18 (indexR18 (h.now b0) hi0 hm hc pc pp (hy.now b0)));have G0 := hid b0;have EW := hid hW;clear h hy b0 hW sz0 pc pp;go_enter Tryz.func111,Tryz.ntmps111;go_wp2_with fail;rw [EW.out];refine HC.out.mono ?_;rintro e w1 ⟨bc,rfl,hr,b⟩;have FIN : Hid (zAI w X c y i0 (.returned (.bool (!bc))) w1) := ⟨_,rfl,by rw [← hr];simp,below_step G0.out b⟩
 clear HC hr b G0 EW;go_wp2;go_ret;exact FIN.out
abbrev fnNz18 : Value := .func (.func 110) #[] #[]
theorem cmpI_ne18 {z : Int} (h : z ≠ 0) : (cmpI z 0 != 0) = true := by
 rcases Int.lt_or_gt_of_ne h with q | q
 ·rw [zUB q];rfl
 ·rw [zKB q];rfl
theorem nz18 {w : World} {v : Value} {z : Int} {k : Nat} (h : Zi w v z k) : Calls Tryz.prog 110 #[v] w fun e w' => e = .returned (.bool (z != 0)) ∧ Below w.heap.size w w' := by
 have z0 := h;obtain ⟨n,xs,a,c,rfl,-,-,-⟩ := h;obtain ⟨W0,hW⟩ : ∃ W0,w.alloc (duo (.bool n) (.slice a xs.length c)) = W0 := ⟨_,rfl⟩
 obtain ⟨b0,sz0⟩ := alo1 w (duo (.bool n) (.slice a xs.length c));rw [hW] at b0 sz0;have HS := hid (ziA (z0.now b0));have G := hid b0;have EW := hid hW;have EB : (cmpI z 0 != 0) = (z != 0) := by
  by_cases q : z = 0
  ·subst q;rw [cmpI_self]
  ·rw [cmpI_ne18 q];simp [q]
 have HEB := hid EB;clear z0 b0 hW sz0 EB;go_enter Tryz.func110,Tryz.ntmps110;go_wp2_with fail;rw [EW.out];refine HS.out.mono ?_;rintro e w1 ⟨rfl,b⟩;have G1 := hid (below_step G.out b);clear b HS;generalize cmpI z 0 = cz at *;go_wp2;go_ret;refine ⟨?_,G1.out⟩;rw [← HEB.out]
 rfl
def zPH (n : Nat) (zs : List Int) (r : Int) : Prop := (r = -1 ∧ ∀ j,j < n → zs.getD j 0 = 0) ∨ ∃ c : Nat,r = (c : Int) ∧ c < n ∧ (∀ j,j < c → zs.getD j 0 = 0) ∧ zs.getD c 0 ≠ 0
def zeH (w : World) (n : Nat) (zs : List Int) (e : Ending) (w' : World) : Prop := ∃ r : Int,e = .returned (.int .i64 r) ∧ zPH n zs r ∧ Below w.heap.size w w'
def zdH (w : World) (g n : Nat) (ps : List (Value × Value)) (zs : List Int) (k gk : Nat) (s : Value) (wx : World) : Prop :=
 ∃ i : Nat,s = .int .i64 (i : Int) ∧ i ≤ n ∧ gk = n - i ∧ (∀ j,j < i → zs.getD j 0 = 0) ∧ Arr wx g ps ∧ Zms wx ps zs k ∧ Below w.heap.size w wx
theorem index18 {w : World} {g n k : Nat} {ps : List (Value × Value)} {zs : List Int} (hA : Arr w g ps) (hz : Zms w ps zs k) (hl : zs.length = n) (hn : n ≤ 64) :
  Calls Tryz.prog 109 #[.slice (some ⟨g,0,none⟩) n n,fnNz18] w (zeH w n zs) := by
 have H0 : Hid (zdH w g n ps zs k n (.int .i64 0) w) := ⟨0,rfl,Nat.zero_le _,rfl,fun j hj => by omega,hA,hz,Below.refl _ _⟩
 have HL := hid hl;clear hA hz hl;go_enter Tryz.func109,Tryz.ntmps109;go_wp2_with fail
 go_loopg [8] n (fun gk s8 wx => zdH w g n ps zs k gk s8 wx)
 case atStart => exact H0.out
 case round =>
  clear H0;obtain ⟨i,rfl,hin,hg,hpos,ar,zr,hG⟩ := hrel;have AR := hid ar;have ZR := hid zr;have G := hid hG;have HG := hid hg;have HP := hid hpos;clear ar zr hG hg hpos
  by_cases hlt : i < n
  ·have hlt' : (i : Int) < (n : Int) := by omega
   obtain ⟨nf,af,lf,cf,k0,k1,-,-,zf⟩ := ZR.out.at AR.out (t := i) (by rw [HL.out];exact hlt);have HS := hid (nz18 zf.zi);have hw := zVA (i := i) (by omega);clear zf
   by_cases hp : zs.getD i 0 = 0
   ·have e0 : (zs.getD i 0 != 0) = false := by rw [hp];rfl
    rw [e0] at HS;have HPP := hid hp;clear hp e0;go_wp2_with fail;refine HS.out.mono ?_;rintro e w1 ⟨rfl,b⟩;have HN1 : Hid (zdH w g n ps zs k (n - (i + 1)) (.int .i64 ((i + 1 : Nat) : Int)) w1) := ⟨i + 1,rfl,by omega,rfl,fun j hj => by
     by_cases q : j < i
     ·exact HP.out j q
     ·obtain rfl : j = i := by omega
      exact HPP.out,AR.out.step b,ZR.out.now b,below_step G.out b⟩
    have HMM : Hid (n - (i + 1) < gk) := by unfold Hid;rw [HG.out];omega
    clear HS HPP AR ZR G HG HP k0 k1 b;go_wp2_with fail;go_roundg (n - (i + 1))
    case rel => exact HN1.out
    case measure => exact HMM.out
   ·have e0 : (zs.getD i 0 != 0) = true := by simp only [bne_iff_ne];exact hp
    rw [e0] at HS;have HPP := hid hp;clear hp e0;go_wp2_with fail;refine HS.out.mono ?_;rintro e w1 ⟨rfl,b⟩;have FIN : Hid (zeH w n zs (.returned (.int .i64 (i : Int))) w1) := ⟨(i : Int),rfl,.inr ⟨i,rfl,hlt,HP.out,HPP.out⟩,below_step G.out b⟩
    clear HS HPP AR ZR G HG HP k0 k1 b;go_wp2;go_ret;exact FIN.out
  ·have hlt' : ¬ (i : Int) < (n : Int) := by omega
   have FIN : Hid (zeH w n zs (.returned (.int .i64 (-1))) wr) := ⟨-1,rfl,.inl ⟨rfl,fun j hj => HP.out j (by omega)⟩,G.out⟩
   clear AR ZR G HG HP;go_wp2;go_ret;exact FIN.out
end Go.Proofs.YtbcgggadelnaaaaGreat
