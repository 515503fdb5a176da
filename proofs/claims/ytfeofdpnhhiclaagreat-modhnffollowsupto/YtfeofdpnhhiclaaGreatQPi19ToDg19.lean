/-
 QPi19ToDg19: Pi19, Dg19, joined.
-/
import Derived.Test.YtfeofdpnhhiclaaGreatQBm19ToPickA9
import Derived.Test.YtfeofdpnhhiclaaGreatQPickB9ToPl19
import Derived.Test.YtfeofdpnhhiclaaGreatQPn19ToRs19
import Derived.Test.YtfeofdpnhhiclaaGreatQSo13ToZf14
import Derived.Test.YtfeofdpnhhiclaaGreatQEach9ToOpenM9

set_option maxRecDepth 100000
set_option maxHeartbeats 6400000
set_option linter.unusedVariables false
set_option linter.unusedSimpArgs false
namespace Go.Proofs.YtfeofdpnhhiclaaGreat
open Go.RowKit
theorem picked19 {w : World} {r c k la ca rl rcap gl gcap ld cd : Nat} {aa ra ga ad : Option Addr} {nd : Bool} {zs : List Int} {is js : List Nat} {i1 i2 j1 j2 : Nat} {ia ja : Option Addr} (ha : Mx w (matv r c (.slice aa la ca)) r c zs k) (hi : In9 w (.slice ia i1 i2) (natv is)) (hj : In9 w (.slice ja j1 j2) (natv js)) (hil : ∀ i ∈ is,i < r) (hjl : ∀ j ∈ js,j < c) (his : is.length ≤ 64) (hjs : js.length ≤ 64) :
  Calls Tryz.prog 64 #[.agg #[.int .i64 (r : Int),.int .i64 (c : Int),.slice aa la ca,.slice ra rl rcap,.slice ga gl gcap,.bool nd,.slice ad ld cd],.slice ia i1 i2,.slice ja j1 j2] w (zxD w is.length js.length (zKB r c zs is js) k) := by
 obtain ⟨W0,hW⟩ : ∃ W0,(w.alloc (.cells #[.int .i64 (r : Int),.int .i64 (c : Int),.slice aa la ca,.slice ra rl rcap,.slice ga gl gcap,.bool nd,.slice ad ld cd] 71)).alloc mbox = W0 := ⟨_,rfl⟩
 obtain ⟨b0,sz0⟩ := zcA w (.cells #[.int .i64 (r : Int),.int .i64 (c : Int),.slice aa la ca,.slice ra rl rcap,.slice ga gl gcap,.bool nd,.slice ad ld cd] 71) mbox;rw [hW] at b0 sz0;have pa : Cel W0 w.heap.size 71 [.int .i64 (r : Int),.int .i64 (c : Int),.slice aa la ca,.slice ra rl rcap,.slice ga gl gcap,.bool nd,.slice ad ld cd] := by
  rw [← hW];exact (Cel.new w 71 [.int .i64 (r : Int),.int .i64 (c : Int),.slice aa la ca,.slice ra rl rcap,.slice ga gl gcap,.bool nd,.slice ad ld cd]).step ((Below.refl _ _).alloc (Nat.le_refl _) _)
 have PR : Hid (Cel W0 (w.heap.size + 1) 24 [.int .i64 0,.int .i64 0,.slice none 0 0]) := by
  unfold Hid;rw [← hW];have := Cel.new (w.alloc (.cells #[.int .i64 (r : Int),.int .i64 (c : Int),.slice aa la ca,.slice ra rl rcap,.slice ga gl gcap,.bool nd,.slice ad ld cd] 71)) 24 [.int .i64 0,.int .i64 0,.slice none 0 0]
  simpa using this
 have HP := hid (pick_yes (ha.now b0) (hi.now b0) (hj.now b0) hil hjl his hjs);have x0 := pa.at (i := 0) rfl;have x1 := pa.at (i := 1) rfl;have x2 := pa.at (i := 2) rfl;rw [← hW] at x0 x1 x2;have G0 := hid b0;have EW := hid hW;have SZ := hid sz0;obtain ⟨il,hill⟩ : ∃ il,is.length = il := ⟨_,rfl⟩
 obtain ⟨jl,hjll⟩ : ∃ jl,js.length = jl := ⟨_,rfl⟩
 rw [hill,hjll] at HP ⊢;clear ha hi hj hil hjl his hjs b0 sz0 hW pa hill hjll;go_enter Tryz.func64,Tryz.ntmps64;go_wp2_with fail;rw [EW.out];clear EW x0 x1 x2;refine HP.out.mono ?_;rintro e w1 ⟨vm,rfl,mm,b⟩;obtain ⟨am,cm,rfl,-,-⟩ := mm.mx.form;obtain ⟨V2,hV⟩ : ∃ V2,w1.alloc (.cells #[.int .i64 (il : Int),.int .i64 (jl : Int),.slice am (il * jl) cm] 24) = V2 := ⟨_,rfl⟩
 obtain ⟨b2,sz2⟩ := alo1 w1 (.cells #[.int .i64 (il : Int),.int .i64 (jl : Int),.slice am (il * jl) cm] 24);rw [hV] at b2 sz2;have D2 : Cel V2 w1.heap.size 24 [.int .i64 (il : Int),.int .i64 (jl : Int),.slice am (il * jl) cm] := by rw [← hV];exact Cel.new w1 _ _
 have PR2 := hid ((PR.out.step b).step b2);have y0 := D2.at (i := 0) rfl;have y1 := D2.at (i := 1) rfl;have y2 := D2.at (i := 2) rfl;have r0 := PR2.out.at (i := 0) rfl;have r1 := PR2.out.at (i := 1) rfl;have r2 := PR2.out.at (i := 2) rfl;have f0 := PR2.out.fz 0;have f1 := PR2.out.fz 1;have f2 := PR2.out.fz 2;have FIN : Hid (zxD w il jl (zKB r c zs is js) k (.returned (.agg #[.int .i64 (il : Int),.int .i64 (jl : Int),.slice am (il * jl) cm])) (put3 V2 (w.heap.size + 1) (.int .i64 (il : Int)) (.int .i64 (jl : Int)) (.slice am (il * jl) cm))) := ⟨_,rfl,(mm.now b2).wk PR2.out _ _ _,zNA (below_step (below_step G0.out b) b2) (by omega) _ _ _⟩
 have PF := hid (PR2.out.put3 (.int .i64 (il : Int)) (.int .i64 (jl : Int)) (.slice am (il * jl) cm));have EV := hid hV;rw [← hV] at y0 y1 y2 r0 r1 r2 f0 f1 f2;obtain ⟨lm,hlm⟩ : ∃ lm,il * jl = lm := ⟨_,rfl⟩
 rw [hlm] at FIN PF EV y0 y1 y2 r0 r1 r2 f0 f1 f2 ⊢;clear HP mm b b2 sz2 hV D2 PR PR2 G0 SZ hlm;go_wp2;rw [EV.out];exact bodyPost_ret (zgD Tryz.results64 PF.out _ (by rfl)) rfl FIN.out
theorem zjG {w : World} {r c k k2 kw la ca rl rcap gl gcap ld cd : Nat} {aa ra ga ad : Option Addr} {nd : Bool} {zs : List Int} {js : List Nat} {z M : Int} (ha : Mx w (matv r c (.slice aa la ca)) r c zs k) (hj : In9 w (.slice ga gl gcap) (natv js)) (hjl : ∀ j ∈ js,j < c) (hjs : js.length ≤ 64) (hz : Zi w (.agg #[.bool nd,.slice ad ld cd]) z k2) (hz0 : z ≠ 0)
  (hMz : (z.natAbs : Int) ≤ M) (hMA : ∀ x ∈ zKB r c zs (List.range r) js,(x.natAbs : Int) ≤ M) (hM : M + 64 * ((z.natAbs : Int) * (z.natAbs : Int)) < pw kw) (hk : 1 ≤ k2) (hkw : k2 ≤ kw) (hkw1 : k ≤ kw) (hK : kw ≤ 17179869184) :
  Calls Tryz.prog 40 #[.agg #[.int .i64 (r : Int),.int .i64 (c : Int),.slice aa la ca,.slice ra rl rcap,.slice ga gl gcap,.bool nd,.slice ad ld cd]] w (zfF w r js.length (en js.length (zKB r c zs (List.range r) js)) (z.natAbs : Int) kw) := by
 obtain ⟨_,_,-,hr64,hc64⟩ := ha.form;obtain ⟨W0,hW⟩ : ∃ W0,(w.alloc (.cells #[.int .i64 (r : Int),.int .i64 (c : Int),.slice aa la ca,.slice ra rl rcap,.slice ga gl gcap,.bool nd,.slice ad ld cd] 71)).alloc mbox = W0 := ⟨_,rfl⟩
 obtain ⟨b0,sz0⟩ := zcA w (.cells #[.int .i64 (r : Int),.int .i64 (c : Int),.slice aa la ca,.slice ra rl rcap,.slice ga gl gcap,.bool nd,.slice ad ld cd] 71) mbox;rw [hW] at b0 sz0;have pa : Cel W0 w.heap.size 71 [.int .i64 (r : Int),.int .i64 (c : Int),.slice aa la ca,.slice ra rl rcap,.slice ga gl gcap,.bool nd,.slice ad ld cd] := by
  rw [← hW];exact (Cel.new w 71 [.int .i64 (r : Int),.int .i64 (c : Int),.slice aa la ca,.slice ra rl rcap,.slice ga gl gcap,.bool nd,.slice ad ld cd]).step ((Below.refl _ _).alloc (Nat.le_refl _) _)
 have PR : Hid (Cel W0 (w.heap.size + 1) 24 [.int .i64 0,.int .i64 0,.slice none 0 0]) := by
  unfold Hid;rw [← hW];have := Cel.new (w.alloc (.cells #[.int .i64 (r : Int),.int .i64 (c : Int),.slice aa la ca,.slice ra rl rcap,.slice ga gl gcap,.bool nd,.slice ad ld cd] 71)) 24 [.int .i64 0,.int .i64 0,.slice none 0 0]
  simpa using this
 have x0 := pa.at (i := 0) rfl;have x1 := pa.at (i := 1) rfl;have x2 := pa.at (i := 2) rfl;have x3 := pa.at (i := 3) rfl;have x4 := pa.at (i := 4) rfl;have x5 := pa.at (i := 5) rfl;have x6 := pa.at (i := 6) rfl;have M0 := hid (ha.now b0);have J0 := hid (hj.now b0);have Z0 := hid (hz.now b0);have G0 := hid b0;have EW := hid hW;have SZ := hid sz0;have HJL := hid hjl;have HJS := hid hjs;have HBB : Hid (∀ w' v,Mx w' v r js.length (zKB r c zs (List.range r) js) k → Zi w' (.agg #[.bool nd,.slice ad ld cd]) z k2 → Calls Tryz.prog 29 #[v,.agg #[.bool nd,.slice ad ld cd]] w' (zfF w' r js.length (en js.length (zKB r c zs (List.range r) js)) (z.natAbs : Int) kw)) := fun w' v h1 h2 => ztC h1 h2 hz0 hMz hMA hM hk hkw hkw1 hK
 obtain ⟨jl,hjll⟩ : ∃ jl,js.length = jl := ⟨_,rfl⟩
 have EJL := hid hjll;rw [hjll] at HBB ⊢;clear ha hj hjl hjs hz hz0 hMz hMA hM hk hkw hkw1 hK b0 sz0 hW pa hjll;go_enter Tryz.func40,Tryz.ntmps40;go_wp2_with fail;rw [EW.out];clear EW;have KB : Hid (∀ w',Below W0.heap.size W0 w' → w'.cell? ⟨w.heap.size,0,none⟩ = some (.int .i64 (r : Int)) ∧ w'.cell? ⟨w.heap.size,1,none⟩ = some (.int .i64 (c : Int)) ∧ w'.cell? ⟨w.heap.size,2,none⟩ = some (.slice aa la ca) ∧ w'.cell? ⟨w.heap.size,3,none⟩ = some (.slice ra rl rcap) ∧ w'.cell? ⟨w.heap.size,4,none⟩ = some (.slice ga gl gcap) ∧ w'.cell? ⟨w.heap.size,5,none⟩ = some (.bool nd) ∧ w'.cell? ⟨w.heap.size,6,none⟩ = some (.slice ad ld cd)) := fun w' h => ⟨cnow h x0,cnow h x1,cnow h x2,cnow h x3,cnow h x4,cnow h x5,cnow h x6⟩
 refine zFA (fun w' => w'.cell? ⟨w.heap.size,0,none⟩ = some (.int .i64 (r : Int)) ∧ w'.cell? ⟨w.heap.size,1,none⟩ = some (.int .i64 (c : Int)) ∧ w'.cell? ⟨w.heap.size,2,none⟩ = some (.slice aa la ca) ∧ w'.cell? ⟨w.heap.size,3,none⟩ = some (.slice ra rl rcap) ∧ w'.cell? ⟨w.heap.size,4,none⟩ = some (.slice ga gl gcap) ∧ w'.cell? ⟨w.heap.size,5,none⟩ = some (.bool nd) ∧ w'.cell? ⟨w.heap.size,6,none⟩ = some (.slice ad ld cd)) 11 (by kernel_rfl) ?_;obtain ⟨D1,hD⟩ : ∃ D1,W0.drew = D1 := ⟨_,rfl⟩
 have GB : Hid (Below W0.heap.size W0 D1) := by unfold Hid;rw [← hD];exact (Below.refl _ _).drew
 rw [hD];clear hD;refine zEA [(0,(.agg #[.int .i64 (r : Int),.int .i64 (c : Int),.slice aa la ca,.slice ra rl rcap,.slice ga gl gcap,.bool nd,.slice ad ld cd])),(1,(.pointer (some ⟨w.heap.size,0,none⟩))),(2,(.pointer (some ⟨w.heap.size,0,none⟩))),(3,(.int .i64 (r : Int))),(5,(.pointer (some ⟨w.heap.size,4,none⟩))),(6,(.slice ga gl gcap)),(8,(.pointer (some ⟨w.heap.size,5,none⟩))),(9,(.agg #[.bool nd,.slice ad ld cd]))] 8 ?_ (KB.out _ GB.out) ?_
 ·simp only [zPA,gA9,g09,g19,Act.put,sI9,s09,s19]
  (repeat' (first | exact trivial | refine And.intro (Or.inl ⟨by rfl,?_⟩) ?_)) <;> (intro w hSw;(try dsimp only at hSw);go_simp)
 simp only [actV,gA9,g09,g19,Act.put,sI9,s09,s19];refine zAA (i := 4) (o := ⟨some 7,.call { callee := .value (.func 65),args := #[.tmp 6],argTypes := #[3] },67, "core.go:28",#[⟨3,.data⟩],none⟩) (by kernel_rfl) rfl (fun K hK => ?_);go_simp;go_at_call 65;refine (zqF (w := D1) (k := r) (by omega)).mono ?_;rintro e w2 ⟨rfl,cp,b⟩;have lz2 := (show Below _ _ _ from b).size;replace GB := hid (below_step GB.out b);have CP := hid cp;clear cp;clear b;refine hK.out _ _ (fun _ => KB.out _ GB.out) ?_;clear hK;refine zAA (i := 7) (o := ⟨some 10,.call { callee := .value (.func 64),args := #[.tmp 3,.tmp 7,.tmp 9],argTypes := #[71,67,67] },24, "core.go:28",#[⟨0,.data⟩,⟨4,.data⟩,⟨6,.data⟩,⟨4,.chain⟩],none⟩) (by kernel_rfl) rfl (fun K hK => ?_);go_simp;go_at_call 64;refine ((show Calls _ _ _ _ (zxD w2 r jl (zKB r c zs (List.range r) js) k) by have h := picked19 (is := List.range r) (M0.out.now GB.out) (CP.out.in14 (by simp) (by omega) (fun t ht => by simp [ht])) (J0.out.now GB.out) (fun i hi => by simpa using hi) HJL.out (by simpa using hr64) HJS.out (rl := rl) (rcap := rcap) (gl := gl) (gcap := gcap) (ra := ra) (ga := ga) (nd := nd) (ad := ad) (ld := ld) (cd := cd);rw [List.length_range,EJL.out] at h;exact h)).mono ?_;rintro e w3 ⟨vm,rfl,mm,b⟩;have lz3 := (show Below _ _ _ from b).size;replace GB := hid (below_step GB.out b);obtain ⟨am,cm,rfl,-,-⟩ := mm.mx.form;have MM := hid mm.mx;clear mm CP;clear b;refine hK.out _ _ (fun _ => KB.out _ GB.out) ?_;clear hK;refine zAA (i := 10) (o := ⟨some 13,.call { callee := .value (.func 29),args := #[.tmp 10,.tmp 12],argTypes := #[24,27] },24, "core.go:28",#[⟨7,.data⟩,⟨9,.data⟩,⟨7,.chain⟩],none⟩) (by kernel_rfl) rfl (fun K hK => ?_);go_simp;go_at_call 29;refine (HBB.out _ _ MM.out (Z0.out.now GB.out)).mono ?_;rintro e w4 ⟨vb,H,rfl,mb,hh,b⟩;have lz4 := (show Below _ _ _ from b).size;replace GB := hid (below_step GB.out b);obtain ⟨au,cu,rfl,-,-⟩ := mb.mx.form;have MB := hid mb;have HH := hid hh;clear mb hh MM;clear b;refine hK.out _ _ (fun _ => KB.out _ GB.out) ?_;clear hK;refine zAA (i := 11) (o := ⟨none,.store 24 (.tmp 2) (.tmp 13),0, "core.go:28",#[⟨10,.data⟩,⟨10,.chain⟩,⟨0,.phase⟩,⟨1,.phase⟩,⟨2,.phase⟩,⟨3,.phase⟩,⟨4,.phase⟩,⟨5,.phase⟩,⟨6,.phase⟩,⟨7,.phase⟩,⟨8,.phase⟩,⟨9,.phase⟩,⟨10,.phase⟩],none⟩) (by kernel_rfl) rfl (fun K hK => ?_);have PR2 := PR.out.step GB.out;have e0 := PR2.at (i := 0) rfl;have e1 := PR2.at (i := 1) rfl;have e2 := PR2.at (i := 2) rfl;have f0 := PR2.fz 0;have f1 := PR2.fz 1;have f2 := PR2.fz 2;go_simp;clear e0 e1 e2 f0 f1 f2;obtain ⟨V5,hW⟩ : ∃ V5,(((w4.setCell ⟨w.heap.size + 1,0,none⟩ (.int .i64 (jl : Int))).setCell ⟨w.heap.size + 1,1,none⟩ (.int .i64 (jl : Int))).setCell ⟨w.heap.size + 1,2,none⟩ (.slice au (jl * jl) cu)) = V5 := ⟨_,rfl⟩
 have FIN : Hid (zfF w r jl (en jl (zKB r c zs (List.range r) js)) (z.natAbs : Int) kw (.returned (.agg #[.int .i64 (jl : Int),.int .i64 (jl : Int),.slice au (jl * jl) cu])) V5) := by
  unfold Hid;rw [← hW];exact ⟨_,H,rfl,MB.out.wk PR2 _ _ _,HH.out,zNA (below_step G0.out GB.out) (by omega) _ _ _⟩
 have PF : Hid (Cel V5 (w.heap.size + 1) 24 [.int .i64 (jl : Int),.int .i64 (jl : Int),.slice au (jl * jl) cu]) := by unfold Hid;rw [← hW];exact PR2.put3 _ _ _
 rw [hW];clear hW;refine hK.out _ _ (fun h => absurd h (by decide)) ?_;clear hK
 try simp only [Act.put]
 refine zCA (by kernel_rfl) ?_ _;clear GB KB MB HH PR2 M0 J0 Z0 G0 HBB PR;obtain ⟨lm,hlm⟩ : ∃ lm,jl * jl = lm := ⟨_,rfl⟩
 rw [hlm] at FIN PF ⊢;clear hlm;go_wp2;exact bodyPost_ret (zgD Tryz.results40 PF.out _ (by rfl)) rfl FIN.out
def zyA (F : Nat → Nat → Int) : Nat → Int
 | 0 => 1
 | i + 1 => zyA F i * F i i
theorem Prs.cell19 {w : World} {a : Option Addr} {l cap t : Nat} {ps : List (Value × Value)} {zs : List Int} {k : Nat} (h : Prs 0 w (.slice a l cap) ps) (hz : Zis w ps zs k) (ht : t < zs.length) : ∃ b off n a' l' c',a = some ⟨b,off,none⟩ ∧ l = zs.length ∧ l ≤ cap ∧ w.cell? ⟨b,off + t * 2,none⟩ = some (.bool n) ∧ w.cell? ⟨b,off + t * 2 + 1,none⟩ = some (.slice a' l' c') ∧ Zi w (.agg #[.bool n,.slice a' l' c']) (zs.getD t 0) k := by
 obtain ⟨a0,c,h1,h2,h3,hx,h4⟩ := h;have ht' : t < ps.length := by rw [hz.1];exact ht
 simp only [Value.slice.injEq] at h1;obtain ⟨rfl,rfl,rfl⟩ := h1;rcases h4 with h4 | ⟨b,off,h5,h5',h6,h7⟩
 ·rw [h4] at ht';simp at ht'
 ·have hp := List.getElem?_eq_getElem ht'
  have q := h7 t _ hp;have zz := hz.2 t _ (zs.getD t 0) hp (by simp [ht]);obtain ⟨n,xs,a',c',e,_⟩ := id zz;simp only [Value.agg.injEq,Array.mk.injEq,List.cons.injEq,and_true] at e;rw [e.1,e.2] at q zz;exact ⟨b,off,n,a',_,c',h5,hz.1,h2,q.1,q.2,zz⟩
def zBI (w : World) (bq n : Nat) (F : Nat → Nat → Int) (k gk : Nat) (s : Value) (wx : World) : Prop :=
 ∃ (i : Nat) (np : Bool) (ap : Option Addr) (lp cp : Nat),s = .int .i64 (i : Int) ∧ i ≤ n ∧ gk = n - i ∧ Duo wx bq (.bool np) (.slice ap lp cp) ∧ Zm 0 wx (.agg #[.bool np,.slice ap lp cp]) (zyA F i) (i * k + 1) ∧ Below w.heap.size w wx
theorem diag19 {w : World} {v : Value} {n k : Nat} {zs : List Int} (hm : Mx w v n n zs k) (hk : k ≤ 17179869184) : Calls Tryz.prog 39 #[v] w (zqE w (zyA (en n zs) n) (n * k + 1)) := by
 have M0 := hm;obtain ⟨aa,ca,rfl,hr,hc⟩ := hm.form;obtain ⟨la,hla⟩ : ∃ la,n * n = la := ⟨_,rfl⟩
 rw [hla] at M0 ⊢;obtain ⟨at_,ps,e1,hP,hZ,hL,-,-⟩ := M0;simp only [Value.agg.injEq,Array.mk.injEq,List.cons.injEq,and_true,true_and] at e1;subst e1;obtain ⟨W0,hW⟩ : ∃ W0,(w.alloc (matO n n (.slice aa la ca))).alloc zbox = W0 := ⟨_,rfl⟩
 obtain ⟨b0,sz0⟩ := zcA w (matO n n (.slice aa la ca)) zbox;rw [hW] at b0 sz0;have pa : Cel W0 w.heap.size 24 (matc n n (.slice aa la ca)) := by
  rw [← hW];exact (Cel.new w 24 (matc n n (.slice aa la ca))).step ((Below.refl _ _).alloc (Nat.le_refl _) _)
 have pR : Duo W0 (w.heap.size + 1) (.bool false) (.slice none 0 0) := by rw [← hW];exact zGA (by simp)
 have HO := hid (of_z (n := 1) (by decide) (by decide) W0);have PA := hid pa;have PR := hid pR;have PP := hid (hP.now b0);have ZZ := hid (hZ.now b0);have HL := hid hL;have ELA := hid hla;have G0 := hid b0;have EW := hid hW;have SZ := hid sz0;have HK := hid hk;clear hm hP hZ hL hla b0 sz0 hW pa pR hk;go_enter Tryz.func39,Tryz.ntmps39;go_wp2_with fail;rw [EW.out];clear EW;refine HO.out.mono ?_;rintro e w1 ⟨r1,rfl,m1,b⟩;obtain ⟨n1,x1,a1,c1,rfl⟩ := m1.parts;obtain ⟨V1,hV⟩ : ∃ V1,w1.alloc (duo (.bool n1) (.slice a1 x1.length c1)) = V1 := ⟨_,rfl⟩
 obtain ⟨b1,sz1⟩ := alo1 w1 (duo (.bool n1) (.slice a1 x1.length c1));rw [hV] at b1 sz1;have d1 : Duo V1 w1.heap.size (.bool n1) (.slice a1 x1.length c1) := by rw [← hV];exact Duo.new w1 _ _
 have HBQ : Hid (W0.heap.size ≤ w1.heap.size) := b.size;have H0 : Hid (zBI W0 w1.heap.size n (en n zs) k n (.int .i64 0) V1) := ⟨0,n1,a1,x1.length,c1,rfl,Nat.zero_le _,rfl,d1,((m1.mono (Nat.zero_le _)).now b1).more (by omega),below_step b b1⟩
 have z0 := (PA.out.step (below_step b b1)).at (i := 0) rfl;rw [← hV] at z0;have EV := hid hV;obtain ⟨bq,hbq⟩ : ∃ bq,w1.heap.size = bq := ⟨_,rfl⟩
 rw [hbq] at H0 HBQ;have EBQ := hid hbq;clear HO m1 b b1 sz1 hV d1 hbq;go_wp2_with fail;rw [EV.out,EBQ.out];clear EV EBQ z0
 go_loopg [8] n (fun gk s8 wx => zBI W0 bq n (en n zs) k gk s8 wx)
 case atStart => exact H0.out
 case round =>
  clear H0;obtain ⟨i,np,ap,lp,cp,rfl,hin,hgk,dp,zp,hb⟩ := hrel;have DP := hid dp;have ZP := hid zp;have BB := hid hb;have HG := hid hgk;clear dp zp hb hgk
  by_cases hlt : i < n
  ·have hlt' : (i : Int) < (n : Int) := by omega
   have hwi := zjA (i := i) (by omega);have HMM : Hid (n - (i + 1) < gk) := by unfold Hid;rw [HG.out];omega
   have hmi := zaC (i := i) (c := n) (by omega) hc;have htl : i * n + i < zs.length := by rw [HL.out];exact zGG hlt hlt
   obtain ⟨db,df,nx,ax,lx,cx,ea,el,ec,q0,q1,zx⟩ := (PP.out.now BB.out).cell19 (ZZ.out.now BB.out) htl;subst ea;have hll : i * n + i < la := by omega
   have hl4 : la ≤ 4096 := by rw [← ELA.out];exact Nat.mul_le_mul hr hc
   obtain ⟨mi,hMI⟩ : ∃ m,i * n = m := ⟨_,rfl⟩
   rw [hMI] at hmi hll q0 q1 zx;have hsi : IntKind.i64.wrap ((mi : Int) + (i : Int)) = ((mi + i : Nat) : Int) := by rw [zqA] <;> omega
   obtain ⟨xi,hXI⟩ : ∃ x,mi + i = x := ⟨_,rfl⟩
   rw [hXI] at hsi hll q0 q1 zx;have hll' : (xi : Int) < (la : Int) := by omega
   have ZX := hid zx;have EXI : Hid (zs.getD xi 0 = en n zs i i) := by unfold Hid en;rw [hMI,hXI]
   have PA1 := PA.out.step BB.out;have y1 := PA1.at (i := 1) rfl;have y2 := PA1.at (i := 2) rfl;have p0 := DP.out.c0;have p1 := DP.out.c1;clear zx el ec htl hMI hXI HG PA1;go_wp2_with fail;have KB : Hid (∀ w',Below wr.heap.size wr w' → w'.cell? ⟨bq,0,none⟩ = some (.bool np) ∧ w'.cell? ⟨bq,1,none⟩ = some (.slice ap lp cp) ∧ w'.cell? ⟨w.heap.size,2,none⟩ = some (.slice (some ⟨db,df,none⟩) la ca) ∧ w'.cell? ⟨w.heap.size,1,none⟩ = some (.int .i64 (n : Int)) ∧ w'.cell? ⟨db,df + xi * 2,none⟩ = some (.bool nx) ∧ w'.cell? ⟨db,df + xi * 2 + 1,none⟩ = some (.slice ax lx cx)) := fun w' h => ⟨cnow h p0,cnow h p1,cnow h y2,cnow h y1,cnow h q0,cnow h q1⟩
   refine zFA (fun w' => w'.cell? ⟨bq,0,none⟩ = some (.bool np) ∧ w'.cell? ⟨bq,1,none⟩ = some (.slice ap lp cp) ∧ w'.cell? ⟨w.heap.size,2,none⟩ = some (.slice (some ⟨db,df,none⟩) la ca) ∧ w'.cell? ⟨w.heap.size,1,none⟩ = some (.int .i64 (n : Int)) ∧ w'.cell? ⟨db,df + xi * 2,none⟩ = some (.bool nx) ∧ w'.cell? ⟨db,df + xi * 2 + 1,none⟩ = some (.slice ax lx cx)) 12 (by kernel_rfl) ?_;obtain ⟨D1,hD⟩ : ∃ D1,wr.drew = D1 := ⟨_,rfl⟩
   have GB : Hid (Below wr.heap.size wr D1) := by unfold Hid;rw [← hD];exact (Below.refl _ _).drew
   rw [hD];clear hD;refine zEA [(0,(.agg #[.bool np,.slice ap lp cp])),(1,(.pointer (some ⟨w.heap.size,2,none⟩))),(2,(.slice (some ⟨db,df,none⟩) la ca)),(3,(.int .i64 (i : Int))),(4,(.pointer (some ⟨w.heap.size,1,none⟩))),(5,(.int .i64 (n : Int))),(6,(.int .i64 (mi : Int))),(7,(.int .i64 (i : Int))),(8,(.int .i64 (xi : Int))),(9,(.pointer (some ⟨db,df + xi * 2,none⟩))),(10,(.agg #[.bool nx,.slice ax lx cx]))] 11 ?_ (KB.out _ GB.out) ?_
   ·simp only [zPA,gA9,g09,g19,Act.put,sI9,s09,s19]
    (repeat' (first | exact trivial | refine And.intro (Or.inl ⟨by rfl,?_⟩) ?_)) <;> (intro w hSw;(try dsimp only at hSw);go_simp)
   simp only [actV,gA9,g09,g19,Act.put,sI9,s09,s19];refine zAA (i := 11) (o := ⟨some 22,.call { callee := .value (.func 11),args := #[.tmp 11,.tmp 21],argTypes := #[27,27] },27, "modhnf.go:62",#[⟨0,.data⟩,⟨10,.data⟩],none⟩) (by kernel_rfl) rfl (fun K hK => ?_);go_simp;go_at_call 11;refine (zzB (ZP.out.now GB.out).zi (ZX.out.now GB.out) (by have := HK.out;have : i * k ≤ 64 * k := Nat.mul_le_mul_right k (by omega);omega)).mono ?_;rintro e w2 ⟨r2,rfl,mm,b⟩;have lz2 := (show Below _ _ _ from b).size;replace GB := hid (below_step GB.out b);have MM := hid (mm.mono (Nat.zero_le _));obtain ⟨nr,xr,ar,cr,rfl⟩ := mm.parts;clear mm;clear b;refine hK.out _ _ (fun _ => KB.out _ GB.out) ?_;clear hK;refine zAA (i := 12) (o := ⟨none,.store 27 (.tmp 3) (.tmp 22),0, "modhnf.go:62",#[⟨11,.data⟩,⟨11,.chain⟩,⟨0,.phase⟩,⟨1,.phase⟩,⟨2,.phase⟩,⟨3,.phase⟩,⟨4,.phase⟩,⟨5,.phase⟩,⟨6,.phase⟩,⟨7,.phase⟩,⟨8,.phase⟩,⟨9,.phase⟩,⟨10,.phase⟩,⟨11,.phase⟩],none⟩) (by kernel_rfl) rfl (fun K hK => ?_);have DP2 := DP.out.step GB.out;have e0 := DP2.c0;have e1 := DP2.c1;have e2 := DP2.fz 0;have e3 := DP2.fz 1;go_simp;clear e0 e1 e2 e3;obtain ⟨V3,hW⟩ : ∃ V3,((w2.setCell ⟨bq,0,none⟩ (.bool nr)).setCell ⟨bq,1,none⟩ (.slice ar xr.length cr)) = V3 := ⟨_,rfl⟩
   have HN1 : Hid (zBI W0 bq n (en n zs) k (n - (i + 1)) (.int .i64 ((i + 1 : Nat) : Int)) V3) := by
    unfold Hid;rw [← hW];refine ⟨i + 1,nr,ar,xr.length,cr,rfl,by omega,rfl,DP2.set _ _,?_,bset (bset (below_step BB.out GB.out) HBQ.out) HBQ.out⟩;have h := MM.out.ty (DP2.ty13 (.bool nr) (.slice ar xr.length cr)) (by decide);rw [EXI.out] at h;exact h.more (by rw [Nat.add_mul];omega)
   rw [hW];clear hW;refine hK.out _ _ (fun h => absurd h (by decide)) ?_;clear hK
   try simp only [Act.put]
   refine zCA (by kernel_rfl) ?_ _;clear GB KB MM DP2 DP ZP BB ZX y1 y2 p0 p1 q0 q1;go_wp2_with fail;go_roundg (n - (i + 1))
   case rel => exact HN1.out
   case measure => exact HMM.out
  ·have hlt' : ¬ (i : Int) < (n : Int) := by omega
   obtain rfl : i = n := by omega
   have p0 := DP.out.c0;have p1 := DP.out.c1;have R2 := hid (PR.out.step BB.out);have r0 := R2.out.c0;have r1 := R2.out.c1;have r2 := R2.out.fz 0;have r3 := R2.out.fz 1;have hsz := SZ.out;have FF : Hid (zqE w (zyA (en i zs) i) (i * k + 1) (.returned (.agg #[.bool np,.slice ap lp cp])) ((wr.setCell ⟨w.heap.size + 1,0,none⟩ (.bool np)).setCell ⟨w.heap.size + 1,1,none⟩ (.slice ap lp cp))) :=
    ⟨_,rfl,ZP.out.ty (R2.out.ty13 _ _) (by decide),bset (bset (below_step G0.out BB.out) (by omega)) (by omega)⟩
   clear DP ZP BB HG hsz;go_wp2;exact bodyPost_ret (zfB Tryz.results39 (R2.out.set _ _) _ (by rfl)) rfl FF.out
end Go.Proofs.YtfeofdpnhhiclaaGreat
