/-
 QLa19ToDe19: La19, De19, joined.
-/
import Derived.Test.YtfeofdpnhhiclaaGreatQPi19ToDg19
import Derived.Test.YtfeofdpnhhiclaaGreatQOf11ToDz12
import Derived.Test.YtfeofdpnhhiclaaGreatQPickB9ToPl19
import Derived.Lib.SliceRun

set_option maxRecDepth 100000
set_option maxHeartbeats 6400000
set_option linter.unusedVariables false
set_option linter.unusedSimpArgs false
namespace Go.Proofs.YtfeofdpnhhiclaaGreat
open Go.RowKit
def zZB (w : World) (g : Nat) (zs : List Int) (k : Nat) : Prop := ∃ ps,Arr w g ps ∧ Zcs w ps zs k
theorem zZB.now {w w' : World} {g k : Nat} {zs : List Int} (h : zZB w g zs k) (hb : Below w.heap.size w w') : zZB w' g zs k := by
 obtain ⟨ps,h1,h2⟩ := h;exact ⟨ps,h1.step hb,h2.now hb⟩
theorem zZB.blk {w : World} {g k : Nat} {zs : List Int} (h : zZB w g zs k) : g < w.heap.size := by
 obtain ⟨ps,h1,h2⟩ := h;exact h1.1.blk
theorem zZB.put {w : World} {g t k : Nat} {zs : List Int} {x y : Value} {z : Int} (h : zZB w g zs k) (ht : t < zs.length) (hz : Zc w (.agg #[x,y]) z k) : zZB ((w.setCell ⟨g,t * 2,none⟩ x).setCell ⟨g,t * 2 + 1,none⟩ y) g (zs.set t z) k := by
 obtain ⟨ps,h1,h2⟩ := h;have hl : t < ps.length := by rw [h2.1];exact ht
 exact ⟨ps.set t (x,y),h1.put hl hz.zi.isI,h2.set (h1.wk hl x y) (hz.wk (h1.wk hl x y))⟩
theorem zZB.cells {w : World} {g t k : Nat} {zs : List Int} (h : zZB w g zs k) (ht : t < zs.length) : ∃ m a l c,w.cell? ⟨g,t * 2,none⟩ = some (.bool m) ∧ w.cell? ⟨g,t * 2 + 1,none⟩ = some (.slice a l c) ∧ w.frozen? ⟨g,t * 2,none⟩ = false ∧ w.frozen? ⟨g,t * 2 + 1,none⟩ = false := by
 obtain ⟨ps,h1,h2⟩ := h;have hp : ps[t]? = some (ps[t]'(by rw [h2.1];exact ht)) := List.getElem?_eq_getElem (by rw [h2.1];exact ht);obtain ⟨m,a,l,c,e⟩ := h1.2 _ (List.getElem_mem (l := ps) (n := t) (by rw [h2.1];exact ht));have q := h1.at hp;rw [e] at q;exact ⟨m,a,l,c,q.1,q.2,h1.1.fz _,h1.1.fz _⟩
theorem Prs.cellc19 {w : World} {a : Option Addr} {l cap t : Nat} {ps : List (Value × Value)} {zs : List Int} {k : Nat} (h : Prs 0 w (.slice a l cap) ps) (hz : Zcs w ps zs k) (ht : t < zs.length) : ∃ b off n a' l' c',a = some ⟨b,off,none⟩ ∧ l = zs.length ∧ w.cell? ⟨b,off + t * 2,none⟩ = some (.bool n) ∧ w.cell? ⟨b,off + t * 2 + 1,none⟩ = some (.slice a' l' c') ∧ Zc w (.agg #[.bool n,.slice a' l' c']) (zs.getD t 0) k := by
 obtain ⟨a0,c,h1,h2,h3,hx,h4⟩ := h;have ht' : t < ps.length := by rw [hz.1];exact ht
 simp only [Value.slice.injEq] at h1;obtain ⟨rfl,rfl,rfl⟩ := h1;rcases h4 with h4 | ⟨b,off,h5,h5',h6,h7⟩
 ·rw [h4] at ht';simp at ht'
 ·have hp := List.getElem?_eq_getElem ht'
  have q := h7 t _ hp;have zz := hz.2 t _ (zs.getD t 0) hp (by simp [ht]);obtain ⟨n,xs,a',c',e,_⟩ := id zz;simp only [Value.agg.injEq,Array.mk.injEq,List.cons.injEq,and_true] at e;rw [e.1,e.2] at q zz;exact ⟨b,off,n,a',_,c',h5,hz.1,q.1,q.2,zz⟩
theorem zNB {g B : Nat} {w w' : World} (h : zOA (· = g) w w') (hg : B ≤ g) (hB : B ≤ w.heap.size) : Below B w w' := ⟨h.os,h.tape,h.output,h.size,fun k hk => h.block k (by omega) (by omega)⟩
def zAC (c pc : Nat) (js : List Nat) (zp : List Int) (i : Nat) (zs : List Int) : Nat → List Int
 | 0 => zs
 | t + 1 => (zAC c pc js zp i zs t).set (i * c + js.getD t 0) (zp.getD (i * pc + t) 0)
def zBB (c pc : Nat) (js : List Nat) (zp zs : List Int) : Nat → List Int
 | 0 => zs
 | i + 1 => zAC c pc js zp i (zBB c pc js zp zs i) pc
theorem zGC (c pc : Nat) (js : List Nat) (zp : List Int) (i : Nat) (zs : List Int) : ∀ t,(zAC c pc js zp i zs t).length = zs.length
 | 0 => rfl
 | t + 1 => by rw [zAC,List.length_set,zGC]
theorem zDB (c pc : Nat) (js : List Nat) (zp zs : List Int) : ∀ i,(zBB c pc js zp zs i).length = zs.length
 | 0 => rfl
 | i + 1 => by rw [zBB,zGC,zDB]
def zwH (V0 : World) (g pr c pc : Nat) (js : List Nat) (zp zs : List Int) (k gk : Nat) (s : Value) (wx : World) : Prop :=
 ∃ i : Nat,s = .int .i64 (i : Int) ∧ i ≤ pr ∧ gk = pr - i ∧ zZB wx g (zBB c pc js zp zs i) k ∧ zOA (· = g) V0 wx
def zvH (V0 : World) (g c pc i : Nat) (js : List Nat) (zp zs : List Int) (k gk : Nat) (s : Value) (wx : World) : Prop :=
 ∃ t : Nat,s = .int .i64 (t : Int) ∧ t ≤ pc ∧ gk = pc - t ∧ zZB wx g (zAC c pc js zp i (zBB c pc js zp zs i) t) k ∧ zOA (· = g) V0 wx
def zNI (w : World) (g : Nat) (zs : List Int) (k : Nat) (e : Ending) (w' : World) : Prop := e = .returned (.tuple #[]) ∧ zZB w' g zs k ∧ zOA (· = g) w w'
theorem zlH {w0 w : World} {g r c pr pc N lp cp jl jc k : Nat} {ap ja : Option Addr} {js : List Nat} {zp zs : List Int} (hw : Below w0.heap.size w0 w) (hg : w0.heap.size ≤ g) (hp : Mc w0 (matv pr pc (.slice ap lp cp)) pr pc zp k) (hj : In9 w0 (.slice ja jl jc) (natv js)) (hjl : ∀ j ∈ js,j < c) (hjs : js.length = pc) (hpr : pr ≤ r) (hc : c ≤ 64) (hr : r ≤ 64) (hN : N = r * c) (hzs : zs.length = N) (hA : zZB w g zs k) :
  Calls Tryz.prog 67 #[matv r c (.slice (some ⟨g,0,none⟩) N N),matv pr pc (.slice ap lp cp),.slice ja jl jc] w (zNI w g (zBB c pc js zp zs pr) k) := by
 have hgw := hA.blk;obtain ⟨V0,hV0⟩ : ∃ V0,(w.alloc (matO r c (.slice (some ⟨g,0,none⟩) N N))).alloc (matO pr pc (.slice ap lp cp)) = V0 := ⟨_,rfl⟩
 obtain ⟨b0,sz0⟩ := zcA w (matO r c (.slice (some ⟨g,0,none⟩) N N)) (matO pr pc (.slice ap lp cp));rw [hV0] at b0 sz0;have ph : Cel V0 w.heap.size 24 (matc r c (.slice (some ⟨g,0,none⟩) N N)) := by
  rw [← hV0];exact (Cel.new w 24 (matc r c (.slice (some ⟨g,0,none⟩) N N))).step ((Below.refl _ _).alloc (Nat.le_refl _) _)
 have pp : Cel V0 (w.heap.size + 1) 24 (matc pr pc (.slice ap lp cp)) := by
  rw [← hV0];have := Cel.new (w.alloc (matO r c (.slice (some ⟨g,0,none⟩) N N))) 24 (matc pr pc (.slice ap lp cp))
  simpa using this
 have hjl2 : jl = pc := by
  obtain ⟨a,q,e,-⟩ := hj;simp only [Value.slice.injEq] at e;rw [e.2.1,← hjs];simp
 subst hjl2;have h64 : pr ≤ 64 ∧ jl ≤ 64 := by obtain ⟨_,_,-,-,-,-,h1,h2⟩ := hp;exact ⟨h1,h2⟩
 have KS : Hid (∀ wx,zOA (· = g) V0 wx → Cel wx w.heap.size 24 (matc r c (.slice (some ⟨g,0,none⟩) N N)) ∧ Cel wx (w.heap.size + 1) 24 (matc pr jl (.slice ap lp cp)) ∧ Mc wx (matv pr jl (.slice ap lp cp)) pr jl zp k ∧ In9 wx (.slice ja jl jc) (natv js)) := fun wx ht => by
  have hb : Below w0.heap.size w0 wx := (below_step hw b0).trans (zNB ht hg (by have := hw.size;omega));exact ⟨(ht.block _ ph.blk (by omega)).trans ph,(ht.block _ pp.blk (by omega)).trans pp,hp.now hb,hj.now hb⟩
 have H0 : Hid (zwH V0 g pr c jl js zp zs k pr (.int .i64 0) V0) := ⟨0,rfl,Nat.zero_le _,by omega,hA.now b0,zOA.refl _ _⟩
 have FIN : Hid (∀ wx,zZB wx g (zBB c jl js zp zs pr) k → zOA (· = g) V0 wx → zNI w g (zBB c jl js zp zs pr) k (.returned (.tuple #[])) wx) := fun wx h1 h2 => ⟨rfl,h1,(zOA.ofBelow b0).trans h2⟩
 have y0 := ph.at (i := 0) rfl;have z0 := pp.at (i := 0) rfl;rw [← hV0] at y0 z0;have HJL := hid hjl;have HJS := hid hjs;have HNN := hid hN;have HZS := hid hzs;have EV0 := hid hV0;obtain ⟨bx,hbx⟩ : ∃ bx,w.heap.size = bx := ⟨_,rfl⟩
 rw [hbx] at KS;have EBX := hid hbx;obtain ⟨h64a,h64b⟩ := h64;have HGV : Hid (g < V0.heap.size) := by unfold Hid;omega
 clear hw hg hp hj hjl hjs hN hzs hA hgw b0 sz0 hV0 ph pp;go_enter Tryz.func67,Tryz.ntmps67;go_wp2_with fail;rw [EV0.out];clear y0 z0
 go_loopg [11] pr (fun gk s11 wx => zwH V0 g pr c jl js zp zs k gk s11 wx)
 case atStart => exact H0.out
 case round =>
  clear H0;obtain ⟨i,rfl,hin,hgk,har,htw⟩ := hrel;have AR := hid har;have TW := hid htw;have HG := hid hgk;clear har htw hgk
  by_cases hlt : i < pr
  ·have hlt' : (i : Int) < (pr : Int) := by omega
   have hwi := zjA (i := i) (by omega);have HMM : Hid (pr - (i + 1) < gk) := by unfold Hid;rw [HG.out];omega
   have H1 : Hid (zvH V0 g c jl i js zp zs k jl (.int .i64 0) wr) := ⟨0,rfl,Nat.zero_le _,by omega,AR.out,TW.out⟩
   clear HG AR TW;go_wp2_with fail
   go_loopg [16] jl (fun gk2 s16 wx => zvH V0 g c jl i js zp zs k gk2 s16 wx)
   case atStart => exact H1.out
   case round =>
    clear H1;obtain ⟨t,rfl,htn,hgk,har,htw⟩ := hrel;have AR := hid har;have TW := hid htw;have HG := hid hgk;clear har htw hgk
    by_cases hlt2 : t < jl
    ·have hlt2' : (t : Int) < (jl : Int) := by omega
     have hwt := zjA (i := t) (by omega);have HMM2 : Hid (jl - (t + 1) < gk) := by unfold Hid;rw [HG.out];omega
     obtain ⟨k1,k2,k3,k4⟩ := KS.out _ TW.out;obtain ⟨at_,ps,e1,hP,hZ,hL,-,-⟩ := k3;simp only [Value.agg.injEq,Array.mk.injEq,List.cons.injEq,and_true,true_and] at e1;subst e1;obtain ⟨p,hpj,hpc⟩ : ∃ p,js.getD t 0 = p ∧ p < c := ⟨_,rfl,by
      refine HJL.out _ ?_;rw [List.getD_eq_getElem?_getD,List.getElem?_eq_getElem (by rw [HJS.out];exact hlt2)];simp⟩
     obtain ⟨jb,jo,hja,uj⟩ : ∃ jb jo,ja = some ⟨jb,jo,none⟩ ∧ wr.cell? ⟨jb,jo + t,none⟩ = some (.int .i64 (p : Int)) := by
      obtain ⟨a,q,e,-,-,h4⟩ := k4;simp only [Value.slice.injEq] at e;rcases h4 with h4 | ⟨b,off,h5,h6,h7⟩
      ·exfalso
       have : (natv js).length = js.length := by simp
       rw [h4] at this;have := HJS.out;simp at *;omega
      ·refine ⟨b,off,by rw [e.1,h5],?_⟩
       rw [h7 t (by simp;rw [HJS.out];exact hlt2)];rw [← hpj];have : t < js.length := by rw [HJS.out];exact hlt2
       simp [this]
     subst hja;have htl : i * jl + t < zp.length := by rw [hL];exact zGG hlt hlt2
     obtain ⟨db,df,nx,ax,lx,cx,ea,el,q0,q1,zx⟩ := hP.cellc19 hZ htl;subst ea;have hlp : lp = pr * jl := by rw [el,hL]
     have hlp2 : lp ≤ 4096 := by rw [hlp];exact Nat.mul_le_mul h64a h64b
     have hp1 : i * jl + t < lp := by rw [el];exact htl
     have hp2 : i * c + p < N := by rw [HNN.out];exact zGG (by omega) hpc
     have hN2 : N ≤ 4096 := by rw [HNN.out];exact Nat.mul_le_mul hr hc
     have m1 := zaC (i := i) (c := jl) (by omega) h64b;have m2 := zaC (i := i) (c := c) (by omega) hc;have EL : Hid ((zAC c jl js zp i (zBB c jl js zp zs i) t).length = N) := by unfold Hid;rw [zGC,zDB];exact HZS.out
     have EP : Hid (zAC c jl js zp i (zBB c jl js zp zs i) (t + 1) = (zAC c jl js zp i (zBB c jl js zp zs i) t).set (i * c + p) (zp.getD (i * jl + t) 0)) := by unfold Hid;rw [zAC,hpj]
     obtain ⟨x1,hX1⟩ : ∃ m,i * jl = m := ⟨_,rfl⟩
     obtain ⟨x2,hX2⟩ : ∃ m,i * c = m := ⟨_,rfl⟩
     rw [hX1] at m1 hp1 q0 q1 zx EP;rw [hX2] at m2 hp2 EP;have s1 : IntKind.i64.wrap ((x1 : Int) + (t : Int)) = ((x1 + t : Nat) : Int) := by rw [zqA] <;> omega
     have s2 : IntKind.i64.wrap ((x2 : Int) + (p : Int)) = ((x2 + p : Nat) : Int) := by rw [zqA] <;> omega
     obtain ⟨t1,hT1⟩ : ∃ m,x1 + t = m := ⟨_,rfl⟩
     obtain ⟨t2,hT2⟩ : ∃ m,x2 + p = m := ⟨_,rfl⟩
     rw [hT1] at hp1 s1 q0 q1 zx EP;rw [hT2] at hp2 s2 EP;have hp1' : (t1 : Int) < (lp : Int) := by omega
     have hp2' : (t2 : Int) < (N : Int) := by omega
     have m1' := m1;have m2' := m2;have s1' := s1;have s2' := s2;rw [IntKind.wrap_i64] at m1' m2' s1' s2';have ZX := hid zx;have h2 := k1.at (i := 2) rfl;have h1 := k1.at (i := 1) rfl;have g2 := k2.at (i := 2) rfl;have g1 := k2.at (i := 1) rfl;clear zx k1 k2 k4 hP hZ hL hX1 hX2 hT1 hT2 HG el hlp htl hpj;go_wp2_with fail;have KB : Hid (∀ w',Below wr.heap.size wr w' → w'.cell? ⟨bx,2,none⟩ = some (.slice (some ⟨g,0,none⟩) N N) ∧ w'.cell? ⟨bx,1,none⟩ = some (.int .i64 (c : Int)) ∧ w'.cell? ⟨bx + 1,2,none⟩ = some (.slice (some ⟨db,df,none⟩) lp cp) ∧ w'.cell? ⟨bx + 1,1,none⟩ = some (.int .i64 (jl : Int)) ∧ w'.cell? ⟨db,df + t1 * 2,none⟩ = some (.bool nx) ∧ w'.cell? ⟨db,df + t1 * 2 + 1,none⟩ = some (.slice ax lx cx)) := fun w' h => ⟨cnow h h2,cnow h h1,cnow h g2,cnow h g1,cnow h q0,cnow h q1⟩
     refine zFA (fun w' => w'.cell? ⟨bx,2,none⟩ = some (.slice (some ⟨g,0,none⟩) N N) ∧ w'.cell? ⟨bx,1,none⟩ = some (.int .i64 (c : Int)) ∧ w'.cell? ⟨bx + 1,2,none⟩ = some (.slice (some ⟨db,df,none⟩) lp cp) ∧ w'.cell? ⟨bx + 1,1,none⟩ = some (.int .i64 (jl : Int)) ∧ w'.cell? ⟨db,df + t1 * 2,none⟩ = some (.bool nx) ∧ w'.cell? ⟨db,df + t1 * 2 + 1,none⟩ = some (.slice ax lx cx)) 19 (by kernel_rfl) ?_;obtain ⟨D1,hD⟩ : ∃ D1,wr.drew = D1 := ⟨_,rfl⟩
     have GB : Hid (Below wr.heap.size wr D1) := by unfold Hid;rw [← hD];exact (Below.refl _ _).drew
     rw [hD];clear hD;refine zEA [(0,(.pointer (some ⟨bx,2,none⟩))),(1,(.slice (some ⟨g,0,none⟩) N N)),(2,(.int .i64 (i : Int))),(3,(.pointer (some ⟨bx,1,none⟩))),(4,(.int .i64 (c : Int))),(5,(.int .i64 (x2 : Int))),(6,(.int .i64 (p : Int))),(7,(.int .i64 (t2 : Int))),(8,(.pointer (some ⟨(bx + 1),2,none⟩))),(9,(.slice (some ⟨db,df,none⟩) lp cp)),(10,(.int .i64 (i : Int))),(11,(.pointer (some ⟨(bx + 1),1,none⟩))),(12,(.int .i64 (jl : Int))),(13,(.int .i64 (x1 : Int))),(14,(.int .i64 (t : Int))),(15,(.int .i64 (t1 : Int))),(16,(.pointer (some ⟨db,df + t1 * 2,none⟩))),(17,(.agg #[.bool nx,.slice ax lx cx])),(18,(.pointer (some ⟨g,t2 * 2,none⟩)))] 19 ?_ (KB.out _ GB.out) ?_
     ·simp only [zPA,gA9,g09,g19,Act.put,sI9,s09,s19]
      (repeat' (first | exact trivial | refine And.intro (Or.inl ⟨by rfl,?_⟩) ?_)) <;> (intro w hSw;(try dsimp only at hSw);go_simp)
     simp only [actV,gA9,g09,g19,Act.put,sI9,s09,s19];refine zAA (i := 19) (o := ⟨none,.store 27 (.tmp 39) (.tmp 38),0, "core.go:81",#[⟨18,.data⟩,⟨17,.data⟩,⟨0,.phase⟩,⟨1,.phase⟩,⟨2,.phase⟩,⟨3,.phase⟩,⟨4,.phase⟩,⟨5,.phase⟩,⟨6,.phase⟩,⟨7,.phase⟩,⟨8,.phase⟩,⟨9,.phase⟩,⟨10,.phase⟩,⟨11,.phase⟩,⟨12,.phase⟩,⟨13,.phase⟩,⟨14,.phase⟩,⟨15,.phase⟩,⟨16,.phase⟩,⟨17,.phase⟩],none⟩) (by kernel_rfl) rfl (fun K hK => ?_);obtain ⟨m0,am,lm,cm,e0,e1,e2,e3⟩ := (AR.out.now GB.out).cells (t := t2) (by rw [EL.out];exact hp2);go_simp;clear e0 e1 e2 e3;obtain ⟨V2,hW⟩ : ∃ V2,((D1.setCell ⟨g,t2 * 2,none⟩ (.bool nx)).setCell ⟨g,t2 * 2 + 1,none⟩ (.slice ax lx cx)) = V2 := ⟨_,rfl⟩
     have HN1 : Hid (zvH V0 g c jl i js zp zs k (jl - (t + 1)) (.int .i64 ((t + 1 : Nat) : Int)) V2) := by
      unfold Hid;rw [← hW];refine ⟨t + 1,rfl,by omega,rfl,?_,((TW.out.trans (.ofBelow GB.out)).setCell (.inr rfl) _ _).setCell (.inr rfl) _ _⟩;rw [EP.out];exact (AR.out.now GB.out).put (by rw [EL.out];exact hp2) (ZX.out.now GB.out)
     rw [hW];clear hW;refine hK.out _ _ (fun h => absurd h (by decide)) ?_;clear hK
     try simp only [Act.put]
     refine zCA (by kernel_rfl) ?_ _;clear GB KB AR TW ZX h1 h2 g1 g2 q0 q1 uj;go_wp2_with fail;go_roundg (jl - (t + 1))
     case rel => exact HN1.out
     case measure => exact HMM2.out
    ·have hlt2' : ¬ (t : Int) < (jl : Int) := by omega
     obtain rfl : t = jl := by omega
     have HN1 : Hid (zwH V0 g pr c t js zp zs k (pr - (i + 1)) (.int .i64 ((i + 1 : Nat) : Int)) wr) := ⟨i + 1,rfl,by omega,rfl,AR.out,TW.out⟩
     clear AR TW HG;go_wp2_with fail;go_roundg (pr - (i + 1))
     case rel => exact HN1.out
     case measure => exact HMM.out
  ·have hlt' : ¬ (i : Int) < (pr : Int) := by omega
   obtain rfl : i = pr := by omega
   have FF := hid (FIN.out _ AR.out TW.out);clear AR TW HG FIN;go_wp2;go_end0;exact FF.out
theorem In9.at19 {w : World} {a : Option Addr} {n c t : Nat} {l : List Nat} (h : In9 w (.slice a n c) (natv l)) (ht : t < n) : l.length = n ∧ ∃ b o,a = some ⟨b,o,none⟩ ∧ w.cell? ⟨b,o + t,none⟩ = some (.int .i64 ((l.getD t 0 : Nat) : Int)) := by
 obtain ⟨a',q,e,-,-,h4⟩ := h;simp only [Value.slice.injEq] at e;obtain ⟨rfl,rfl,rfl⟩ := e;have hl : (natv l).length = l.length := by simp
 refine ⟨hl.symm,?_⟩;rcases h4 with h4 | ⟨b,off,h5,h6,h7⟩
 ·rw [h4] at ht;simp at ht
 ·refine ⟨b,off,h5,?_⟩
  rw [h7 t ht];have : t < l.length := by omega
  simp [this]
theorem zcC (g : Nat) : ∀ (vs : List Value) (o : Nat) (w : World),zOA (· = g) w (w.setCells g o vs)
 | [],_,w => zOA.refl _ _
 | v :: r,o,w => ((zOA.refl (· = g) w).setCell (g := g) (.inr rfl) o v).trans (zcC g r (o + 1) _)
def Ih19 (w : World) (n x gk : Nat) (l : List Nat) (s8 : Value) (wx : World) : Prop := ∃ i : Nat,s8 = .int .i64 (i : Int) ∧ i ≤ n ∧ gk = n - i ∧ (∀ j,j < i → l.getD j 0 ≠ x) ∧ wx = w
theorem index_in19 {w : World} {a : Option Addr} {n c : Nat} {l : List Nat} {x : Nat} (h : In9 w (.slice a n c) (natv l)) (hl : n ≤ 4096) (hn : l.length = n) (hx : x ∈ l) : Calls Tryz.prog 122 #[.slice a n c,.int .i64 (x : Int)] w fun e w' => ∃ z : Nat,e = .returned (.int .i64 (z : Int)) ∧ w' = w := by
 have HI := hid h;have H0 : Hid (Ih19 w n x n l (.int .i64 0) w) := ⟨0,rfl,Nat.zero_le _,by omega,fun j hj => by omega,rfl⟩
 have HX : Hid (∃ j,j < n ∧ l.getD j 0 = x) := by
  obtain ⟨i,hi,e⟩ := List.mem_iff_getElem.1 hx;exact ⟨i,by omega,by rw [List.getD_eq_getElem?_getD,List.getElem?_eq_getElem hi];exact e⟩
 clear h hn hx;go_enter Tryz.func122,Tryz.ntmps122;go_wp2_with fail
 go_loopg [8] n (fun gk s8 wx => Ih19 w n x gk l s8 wx)
 case atStart => exact H0.out
 case round =>
  clear H0;obtain ⟨i,rfl,hil,hg,hj,hwx⟩ := hrel;rw [hwx];clear hwx wr;have HG := hid hg;have HJ := hid hj;clear hg hj
  by_cases hlt : i < n
  ·have hlt' : (i : Int) < (n : Int) := by omega
   have hw := zjA (i := i) (by omega);obtain ⟨-,b,o,rfl,c0⟩ := HI.out.at19 hlt;obtain ⟨y,hy⟩ : ∃ y,l.getD i 0 = y := ⟨_,rfl⟩
   rw [hy] at c0;have HY := hid hy;clear hy
   by_cases hxy : x = y
   ·have hb : ((x : Int) == (y : Int)) = true := by simp [hxy]
    have hxi : (x : Int) = (y : Int) := by omega
    clear HG HJ HI hxy hxi;go_wp2;go_ret;exact ⟨i,rfl,rfl⟩
   ·have hb : ((x : Int) == (y : Int)) = false := by simp;omega
    have hxi : ¬ (x : Int) = (y : Int) := by omega
    have HN1 : Hid (Ih19 w n x (n - (i + 1)) l (.int .i64 ((i + 1 : Nat) : Int)) w) := ⟨i + 1,rfl,by omega,rfl,fun j hj => by
     by_cases e : j = i
     ·subst e;rw [HY.out];omega
     ·exact HJ.out j (by omega),rfl⟩
    have HMM : Hid (n - (i + 1) < gk) := by unfold Hid;rw [HG.out];omega
    clear HG HJ HI hxy;go_wp2_with fail;go_roundg (n - (i + 1))
    case rel => exact HN1.out
    case measure => exact HMM.out
  ·exfalso
   obtain ⟨j,h1,h2⟩ := HX.out;exact HJ.out j (by omega) h2
theorem contains_in19 {w : World} {a : Option Addr} {n c : Nat} {l : List Nat} {x : Nat} (h : In9 w (.slice a n c) (natv l)) (hl : n ≤ 4096) (hn : l.length = n) (hx : x ∈ l) : Calls Tryz.prog 93 #[.slice a n c,.int .i64 (x : Int)] w fun e w' => e = .returned (.bool true) ∧ w' = w := by
 have HI := hid (index_in19 h hl hn hx);clear h hn hx;go_enter Tryz.func93,Tryz.ntmps93;go_wp2_with fail;refine HI.out.mono ?_;rintro e w1 ⟨z,rfl,hw1⟩;rw [hw1];have hz : (z : Int) ≥ 0 := by omega
 have hz2 : decide ((z : Int) ≥ 0) = true := by simp
 clear hw1 HI;go_wp2;go_ret;exact ⟨by simp,rfl⟩
abbrev zHI (bc : Nat) : Value := .func (.func 92) #[] #[.pointer (some ⟨bc,0,none⟩)]
theorem oth19 {w : World} {bc n c : Nat} {a : Option Addr} {x0 x1 x2 x3 x5 x6 : Value} {l : List Nat} {x : Nat} (hC : Cel w bc 71 [x0,x1,x2,x3,.slice a n c,x5,x6]) (h : In9 w (.slice a n c) (natv l)) (hl : n ≤ 4096) (hn : l.length = n) (hx : x ∈ l) : Calls Tryz.prog 92 #[.int .i64 (x : Int),.pointer (some ⟨bc,0,none⟩)] w fun e w' => e = .returned (.bool true) ∧ w' = w := by
 have HI := hid (contains_in19 h hl hn hx);have c4 := hC.at (i := 4) rfl;clear h hn hx hC;go_enter Tryz.func92,Tryz.ntmps92;go_wp2_with fail;refine HI.out.mono ?_;rintro e w1 ⟨rfl,hw1⟩;rw [hw1];clear hw1 HI;go_wp2;go_ret;exact ⟨rfl,rfl⟩
def Ix19 (w : World) (n gk : Nat) (s8 : Value) (wx : World) : Prop := s8 = .int .i64 0 ∧ gk = n ∧ wx = w
theorem indexF_in19 {w : World} {bc k n c g : Nat} {a : Option Addr} {x0 x1 x2 x3 x5 x6 : Value} {l : List Nat} (hP : Cel w g 3 (wf k fun t => (t : Int))) (hC : Cel w bc 71 [x0,x1,x2,x3,.slice a n c,x5,x6]) (h : In9 w (.slice a n c) (natv l)) (hl : n ≤ 4096) (hn : l.length = n) (hk : k ≤ 4096) (hx : ∀ x,x < k → x ∈ l) : Calls Tryz.prog 121 #[.slice (some ⟨g,0,none⟩) k k,zHI bc] w fun e w' => ∃ z : Int,e = .returned (.int .i64 z) ∧ (k = 0 → z = -1) ∧ (0 < k → z = 0) ∧ w' = w := by
 have H0 : Hid (Ix19 w k k (.int .i64 0) w) := ⟨rfl,rfl,rfl⟩
 have HO : Hid (0 < k → w.cell? ⟨g,0,none⟩ = some (.int .i64 0) ∧ Calls Tryz.prog 92 #[.int .i64 0,.pointer (some ⟨bc,0,none⟩)] w fun e w' => e = .returned (.bool true) ∧ w' = w) := fun q => ⟨hP.at (zVF q),oth19 (x := 0) hC h hl hn (hx 0 q)⟩
 clear hP hC h hn hx;go_enter Tryz.func121,Tryz.ntmps121;go_wp2_with fail
 go_loopg [8] k (fun gk s8 wx => Ix19 w k gk s8 wx)
 case atStart => exact H0.out
 case round =>
  clear H0;obtain ⟨rfl,hg,hwx⟩ := hrel;rw [hwx];clear hwx wr hg
  by_cases hlt : 0 < k
  ·have hlt' : (0 : Int) < (k : Int) := by omega
   obtain ⟨c0,hc⟩ := HO.out hlt;have HC := hid hc;clear hc HO;go_wp2_with fail;refine HC.out.mono ?_;rintro e w1 ⟨rfl,hw1⟩;rw [hw1];clear hw1 HC;go_wp2;go_ret;exact ⟨0,rfl,fun q => by omega,fun _ => rfl,rfl⟩
  ·have hlt' : ¬ (0 : Int) < (k : Int) := by omega
   clear HO;go_wp2;go_ret;exact ⟨-1,rfl,by simp⟩
def Dl19 (w : World) (n gk : Nat) (s5 s6 : Value) (wx : World) : Prop := ∃ j : Nat,s5 = .int .i64 0 ∧ s6 = .int .i64 (j : Int) ∧ j ≤ n ∧ gk = n - j ∧ wx = w
theorem deleteF_in19 {w : World} {bc k n c g : Nat} {a : Option Addr} {x0 x1 x2 x3 x5 x6 : Value} {l : List Nat} (hP : Cel w g 3 (wf k fun t => (t : Int))) (hC : Cel w bc 71 [x0,x1,x2,x3,.slice a n c,x5,x6]) (h : In9 w (.slice a n c) (natv l)) (hl : n ≤ 4096) (hn : l.length = n) (hk : k ≤ 4096) (hx : ∀ x,x < k → x ∈ l) : Calls Tryz.prog 91 #[.slice (some ⟨g,0,none⟩) k k,zHI bc] w fun e w' => e = .returned (.slice (some ⟨g,0,none⟩) 0 k) ∧ zOA (· = g) w w' := by
 have HI := hid (indexF_in19 hP hC h hl hn hk hx)
 by_cases hk0 : k = 0
 ·subst hk0
  clear hP hC h hn hx;go_enter Tryz.func91,Tryz.ntmps91;go_wp2_with fail;refine HI.out.mono ?_;rintro e w1 ⟨z,rfl,h1,h2,hw1⟩;obtain rfl : z = -1 := by simpa using h1
  rw [hw1];clear h1 h2;clear hw1 HI;go_wp2;go_ret;exact ⟨rfl,zOA.refl _ _⟩
 ·have H0 : Hid (Dl19 w k (k - 1) (.int .i64 0) (.int .i64 1) w) := ⟨1,rfl,rfl,by omega,rfl,rfl⟩
  have HO : Hid (∀ j,j < k → w.cell? ⟨g,j,none⟩ = some (.int .i64 (j : Int)) ∧ Calls Tryz.prog 92 #[.int .i64 (j : Int),.pointer (some ⟨bc,0,none⟩)] w fun e w' => e = .returned (.bool true) ∧ w' = w) := fun j q => ⟨hP.at (zVF q),oth19 (x := j) hC h hl hn (hx j q)⟩
  have HCL : Hid (∀ ty,(Builtin.clear_ #[67] ty #[.slice (some ⟨g,0,none⟩) k k]).run Tryz.prog w = .ok (.tuple #[]) (w.setCells g 0 (List.replicate k (.int .i64 0)))) := fun ty => Lib.run_clear_slice w _ _ ty _ rfl (fun _ => rfl) rfl rfl g 0 k k (by omega) (fun j hj => by rw [Nat.zero_add,hP.at (zVF hj)];rfl) (fun j hj => hP.fz _)
  have hk1 : (1 : Int) ≤ (k : Int) := by omega
  clear hP hC h hn hx;go_enter Tryz.func91,Tryz.ntmps91;go_wp2_with fail;refine HI.out.mono ?_;rintro e w1 ⟨z,rfl,h1,h2,hw1⟩;rw [hw1,h2 (by omega)];clear h1 h2;clear hw1 HI;go_wp2_with fail
  go_loopg [5,6] (k - 1) (fun gk s5 s6 wx => Dl19 w k gk s5 s6 wx)
  case atStart => exact H0.out
  case round =>
   clear H0;obtain ⟨j,rfl,rfl,hjk,hg,hwx⟩ := hrel;rw [hwx];clear hwx wr;have HG := hid hg;clear hg
   by_cases hlt : j < k
   ·have hlt' : (j : Int) < (k : Int) := by omega
    have hw := zjA (i := j) (by omega);obtain ⟨c0,hc⟩ := HO.out j hlt;have HC := hid hc;have HN1 : Hid (Dl19 w k (k - (j + 1)) (.int .i64 0) (.int .i64 ((j + 1 : Nat) : Int)) w) := ⟨j + 1,rfl,rfl,by omega,rfl,rfl⟩
    have HMM : Hid (k - (j + 1) < gk) := by unfold Hid;rw [HG.out];omega
    clear hc HO HCL HG;go_wp2_with fail;refine HC.out.mono ?_;rintro e w1 ⟨rfl,hw1⟩;rw [hw1];clear hw1 HC;go_wp2_with fail;go_roundg (k - (j + 1))
    case rel => exact HN1.out
    case measure => exact HMM.out
   ·have hlt' : ¬ (j : Int) < (k : Int) := by omega
    have hcl := HCL.out;have FF : Hid (zOA (· = g) w (w.setCells g 0 (List.replicate k (.int .i64 0)))) := zcC g _ _ _;clear HO HCL HG;go_wp2;go_ret;exact ⟨rfl,FF.out⟩
def zqH (w : World) (e : Ending) (w' : World) : Prop := ∃ a c,e = .returned (.slice a 0 c) ∧ Below w.heap.size w w'
theorem others19 {w : World} {r c la ca rl rcap gl gcap ld cd : Nat} {aa ra ga ad : Option Addr} {nd : Bool} {js : List Nat} (hj : In9 w (.slice ga gl gcap) (natv js)) (hc : c ≤ 64) (hjs : js.length ≤ 64) (hx : ∀ x,x < c → x ∈ js) :
  Calls Tryz.prog 66 #[.agg #[.int .i64 (r : Int),.int .i64 (c : Int),.slice aa la ca,.slice ra rl rcap,.slice ga gl gcap,.bool nd,.slice ad ld cd]] w (zqH w) := by
 obtain ⟨W0,hW⟩ : ∃ W0,w.alloc (.cells #[.int .i64 (r : Int),.int .i64 (c : Int),.slice aa la ca,.slice ra rl rcap,.slice ga gl gcap,.bool nd,.slice ad ld cd] 71) = W0 := ⟨_,rfl⟩
 obtain ⟨b0,sz0⟩ := alo1 w (.cells #[.int .i64 (r : Int),.int .i64 (c : Int),.slice aa la ca,.slice ra rl rcap,.slice ga gl gcap,.bool nd,.slice ad ld cd] 71);rw [hW] at b0 sz0;have pc : Cel W0 w.heap.size 71 [.int .i64 (r : Int),.int .i64 (c : Int),.slice aa la ca,.slice ra rl rcap,.slice ga gl gcap,.bool nd,.slice ad ld cd] := by rw [← hW];exact Cel.new w _ _
 have hgl : js.length = gl := by
  obtain ⟨a,q,e,-⟩ := hj;simp only [Value.slice.injEq] at e;rw [e.2.1];simp
 have HP := hid (zqF (w := W0) (k := c) (by omega));have HJ := hid (hj.now b0);have PC := hid pc;have c1 := pc.at (i := 1) rfl;rw [← hW] at c1;have HX := hid hx;have HGL := hid hgl;have G0 := hid b0;have SZ := hid sz0;have EW := hid hW;clear hj hx b0 sz0 hW pc hgl;go_enter Tryz.func66,Tryz.ntmps66;go_wp2_with fail;rw [EW.out];refine HP.out.mono ?_;rintro e w1 ⟨rfl,hcel,b⟩;have HD := hid (deleteF_in19 (bc := w.heap.size) hcel (PC.out.step b) (HJ.out.now b) (by rw [← HGL.out];omega) HGL.out (by omega) HX.out);have FF : Hid (∀ w',zOA (· = W0.heap.size) w1 w' → zqH w (.returned (.slice (some ⟨W0.heap.size,0,none⟩) 0 c)) w') := fun w' ht => ⟨_,_,rfl,(below_step G0.out b).trans ⟨ht.os,ht.tape,ht.output,ht.size,fun k hk => ht.block k (by have := b.size;have := SZ.out;omega) (by have := SZ.out;omega)⟩⟩
 clear HP HJ PC c1 hcel b EW;go_wp2_with fail;refine HD.out.mono ?_;rintro e w2 ⟨rfl,ht⟩;have FE := hid (FF.out _ ht);clear HD FF ht;go_wp2;go_ret;exact FE.out
end Go.Proofs.YtfeofdpnhhiclaaGreat
