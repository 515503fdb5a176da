/-
 QInts9ToPickA9: Ints9, PickA9, joined.
-/
import Derived.Test.YtfeofdpnhhiclaaGreatQLm6ToChkN9

set_option maxRecDepth 100000
set_option maxHeartbeats 6400000
set_option linter.unusedVariables false
set_option linter.unusedSimpArgs false
namespace Go.Proofs.YtfeofdpnhhiclaaGreat
open Go.RowKit
def In9 (w : World) (v : Value) (is : List Int) : Prop :=
 ∃ a c,v = .slice a is.length c ∧ is.length ≤ c ∧ is.length ≤ 1048576 ∧ (is = [] ∨ ∃ b off,a = some ⟨b,off,none⟩ ∧ b < w.heap.size ∧ ∀ j (h : j < is.length),w.cell? ⟨b,off + j,none⟩ = some (.int .i64 is[j]))
theorem In9.now {w w' : World} {v : Value} {is : List Int} (h : In9 w v is) (hb : Below w.heap.size w w') : In9 w' v is := by
 obtain ⟨a,c,h1,h2,h3,h4⟩ := h;refine ⟨a,c,h1,h2,h3,?_⟩;rcases h4 with h4 | ⟨b,off,h5,h6,h7⟩
 ·exact .inl h4
 ·exact .inr ⟨b,off,h5,Nat.lt_of_lt_of_le h6 hb.size,fun j hj => (hb.cell (p := ⟨b,off + j,none⟩) h6).trans (h7 j hj)⟩
theorem In9.form {w : World} {v : Value} {is : List Int} (h : In9 w v is) : ∃ a c,v = .slice a is.length c ∧ is.length ≤ c ∧ is.length ≤ 1048576 ∧ (is ≠ [] → ∃ b off,a = some ⟨b,off,none⟩) := by
 obtain ⟨a,c,h1,h2,h3,h4⟩ := h;refine ⟨a,c,h1,h2,h3,fun hn => ?_⟩;rcases h4 with h4 | ⟨b,off,h5,_⟩
 ·exact absurd h4 hn
 ·exact ⟨b,off,h5⟩
theorem In9.at {w : World} {b off l c : Nat} {is : List Int} (h : In9 w (.slice (some ⟨b,off,none⟩) l c) is) {i : Nat} (hi : i < is.length) : w.cell? ⟨b,off + i,none⟩ = some (.int .i64 is[i]) := by
 obtain ⟨a,c,h1,h2,h3,h4⟩ := h;rcases h4 with h4 | ⟨b',off',h5,h6,h7⟩
 ·subst h4;simp at hi
 ·subst h5
  injection h1 with e1 e2 e3
  injection e1 with e1
  injection e1 with e1 e4
  subst e1 e4;exact h7 i hi
abbrev zNG (pb : Nat) : Value := .func (.func 143) #[] #[.pointer (some ⟨pb,0,none⟩)]
theorem below1_no {w : World} {x n : Int} {pb : Nat} (hp : w.cell? ⟨pb,0,none⟩ = some (.int .i64 n)) (h0 : 0 ≤ x) (h1 : x < n) : Calls Tryz.prog 143 #[.int .i64 x,.pointer (some ⟨pb,0,none⟩)] w fun e w' => e = .returned (.bool false) ∧ w' = w := by
 have q0 : ¬ x < 0 := by omega
 have q1 : ¬ n ≤ x := by omega
 go_enter Tryz.func143,Tryz.ntmps143;go_wp2;go_ret;exact ⟨rfl,rfl⟩
def Idx9 (w : World) (n g : Nat) (s : Value) (wx : World) : Prop := ∃ i : Nat,s = .int .i64 (i : Int) ∧ i ≤ n ∧ g = n - i ∧ Below w.heap.size w wx
theorem index9 {w : World} {v : Value} {is : List Int} {b : Int} {pb : Nat} (hv : In9 w v is) (hp : w.cell? ⟨pb,0,none⟩ = some (.int .i64 b)) (ha : ∀ x ∈ is,0 ≤ x ∧ x < b) :
  Calls Tryz.prog 121 #[v,zNG pb] w fun e w' => e = .returned (.int .i64 (-1)) ∧ Below w.heap.size w w' := by
 have V0 := hid hv;have P0 := hid hp;have HA : Hid (∀ i (h : i < is.length),0 ≤ is[i] ∧ is[i] < b) := fun i h => ha _ (List.getElem_mem h)
 obtain ⟨a0,c0,rfl,hc0,hn0,hf0⟩ := hv.form;obtain ⟨n,hn⟩ : ∃ n,is.length = n := ⟨_,rfl⟩
 rw [hn] at V0 hc0 hn0 ⊢;have HN := hid hn;have F0 := hid hf0;clear hv hf0 hn hp ha;have H0 : Hid (Idx9 w n n (.int .i64 0) w) := ⟨0,rfl,Nat.zero_le _,rfl,Below.refl _ _⟩
 go_enter Tryz.func121,Tryz.ntmps121;go_wp2_with fail
 go_loopg [8] n (fun g s8 wx => Idx9 w n g s8 wx)
 case atStart => exact H0.out
 case round =>
  clear H0;obtain ⟨i,rfl,hin,hg,hG⟩ := hrel;have G := hid hG;have HG := hid hg;clear hG hg
  by_cases hlt : i < n
  ·have hlt' : (i : Int) < (n : Int) := by omega
   obtain ⟨b1,o1,rfl⟩ := F0.out (fun e => by have := HN.out;rw [e] at this;simp at this;omega);have k0 := (V0.out.now G.out).at (i := i) (by rw [HN.out];exact hlt);have hx := HA.out i (by rw [HN.out];exact hlt);have HS := hid (below1_no (cnow G.out P0.out) hx.1 hx.2);have hw := zpA (i := i) (by omega);generalize is[i]'(by rw [HN.out];exact hlt) = x at *;clear hx;go_wp2_with fail;refine HS.out.mono ?_;rintro e w1 ⟨rfl,q⟩;rw [q];have HN1 : Hid (Idx9 w n (n - (i + 1)) (.int .i64 ((i + 1 : Nat) : Int)) wr) := ⟨i + 1,rfl,by omega,rfl,G.out⟩
   have HMM : Hid (n - (i + 1) < gk) := by unfold Hid;rw [HG.out];omega
   clear HS G HG k0 q;go_wp2_with fail;go_roundg (n - (i + 1))
   case rel => exact HN1.out
   case measure => exact HMM.out
  ·have hlt' : ¬ (i : Int) < (n : Int) := by omega
   clear HG;go_wp2;go_ret;exact ⟨rfl,G.out⟩
theorem contains9 {w : World} {v : Value} {is : List Int} {b : Int} {pb : Nat} (hv : In9 w v is) (hp : w.cell? ⟨pb,0,none⟩ = some (.int .i64 b)) (ha : ∀ x ∈ is,0 ≤ x ∧ x < b) :
  Calls Tryz.prog 142 #[v,zNG pb] w fun e w' => e = .returned (.bool false) ∧ Below w.heap.size w w' := by
 have HI := hid (index9 hv hp ha);obtain ⟨a0,c0,rfl,-,-,-⟩ := hv.form;clear hv hp ha;go_enter Tryz.func142,Tryz.ntmps142;go_wp2_with fail;refine HI.out.mono ?_;rintro e w1 ⟨rfl,b⟩;have G := hid b;clear HI b;go_wp2;go_ret;exact ⟨rfl,G.out⟩
theorem zMD {w : World} {v : Value} {is : List Int} {b : Int} (hv : In9 w v is) (ha : ∀ x ∈ is,0 ≤ x ∧ x < b) :
  Calls Tryz.prog 115 #[v,.int .i64 b] w fun e w' => e = .returned (.bool true) ∧ Below w.heap.size w w' := by
 obtain ⟨W0,hW⟩ : ∃ W0,w.alloc (.cells #[.int .i64 b] 3) = W0 := ⟨_,rfl⟩
 obtain ⟨b0,sz0⟩ := alo1 w (.cells #[.int .i64 b] 3);rw [hW] at b0 sz0;have hp : W0.cell? ⟨w.heap.size,0,none⟩ = some (.int .i64 b) := by rw [← hW];exact (Cel.new w 3 [.int .i64 b]).at (i := 0) rfl
 have HC := hid (contains9 (hv.now b0) hp ha);obtain ⟨a0,c0,rfl,-,-,-⟩ := hv.form;have G0 := hid b0;have EW := hid hW;clear hv ha b0 hW sz0 hp;go_enter Tryz.func115,Tryz.ntmps115;go_wp2_with fail;rw [EW.out];refine HC.out.mono ?_;rintro e w1 ⟨rfl,b⟩;have G := hid (below_step G0.out b);clear HC G0 EW b;go_wp2;go_ret;exact ⟨rfl,G.out⟩
def ent9 (zss : List (List Int)) (i j : Nat) : Int := (zss.getD i []).getD j 0
theorem pick11_any {w : World} {B pb ib k i j : Nat} {v : Value} {pss : List (List (Value × Value))} {zss : List (List Int)} (hp : w.cell? ⟨pb,0,none⟩ = some v) (hv : Prr B w v pss) (hz : Ziss w pss zss k) (hi : w.cell? ⟨ib,0,none⟩ = some (.int .i64 (i : Int))) (hil : i < pss.length) (hjl : j < (zss.getD i []).length) :
  Calls Tryz.prog 119 #[.int .i64 (j : Int),.pointer (some ⟨pb,0,none⟩),.pointer (some ⟨ib,0,none⟩)] w (zwA w (ent9 zss i j) k) := by
 obtain ⟨W0,hW⟩ : ∃ W0,w.alloc zbox = W0 := ⟨_,rfl⟩
 obtain ⟨b0,sz0⟩ := alo1 w zbox;rw [hW] at b0 sz0;have P3 : Hid (Duo W0 w.heap.size (.bool false) (.slice none 0 0)) := by unfold Hid;rw [← hW];exact Duo.new w _ _
 obtain ⟨a0,c0,rfl,hc0,hn0,hf0⟩ := hv.form;obtain ⟨b1,o1,rfl⟩ := hf0 (fun e => by rw [e] at hil;simp at hil);have hpi : pss[i]? = some pss[i] := List.getElem?_eq_getElem hil;obtain ⟨u,k0,pu⟩ := hv.at (i := i) hpi;have hzl := zuF pu (hz.2 i _ hpi);obtain ⟨a1,c1,rfl,hc1,hn1,hf1⟩ := hzl.form9;obtain ⟨b2,o2,rfl⟩ := hf1 (fun e => by rw [e] at hjl;simp at hjl);obtain ⟨nf,xf,adf,qf,e0,e1,zf⟩ := hzl.at9 (i := j) hjl;rw [zoD] at zf;have HS := hid (zkD (zf.now b0));have k1 : (w.alloc zbox).cell? ⟨pb,0,none⟩ = some (.slice (some ⟨b1,o1,none⟩) pss.length c0) := by rw [hW];exact cnow b0 hp
 have k2 : (w.alloc zbox).cell? ⟨ib,0,none⟩ = some (.int .i64 (i : Int)) := by rw [hW];exact cnow b0 hi
 have k3 : (w.alloc zbox).cell? ⟨b1,o1 + i,none⟩ = some (.slice (some ⟨b2,o2,none⟩) (zss.getD i []).length c1) := by rw [hW];exact cnow b0 k0
 have k4 : (w.alloc zbox).cell? ⟨b2,o2 + j * 2,none⟩ = some (.bool nf) := by rw [hW];exact cnow b0 e0
 have k5 : (w.alloc zbox).cell? ⟨b2,o2 + j * 2 + 1,none⟩ = some (.slice adf xf.length qf) := by rw [hW];exact cnow b0 e1
 have hi' : (i : Int) < (pss.length : Int) := by omega
 have hj' : (j : Int) < ((zss.getD i []).length : Int) := by omega
 have G0 := hid b0;have EW := hid hW;have SZ := hid sz0;have EE : Hid (ent9 zss i j = (zss.getD i []).getD j 0) := rfl;rw [EE.out];clear b0 hW sz0 hp hv hz hi hf0 hf1 hpi k0 pu hzl e0 e1 zf EE;generalize (zss.getD i []).getD j 0 = dd at *;generalize (zss.getD i []).length = ln at *;generalize pss.length = lp at *;go_enter Tryz.func119,Tryz.ntmps119;go_wp2_with fail;rw [EW.out];refine HS.out.mono ?_;rintro e w1 ⟨r,rfl,m1,b⟩;obtain ⟨nr,xr,ar,cr,rfl⟩ := m1.parts;have P31 := hid (P3.out.step b);have G1 := hid (below_step G0.out b);have HM := hid m1;have HB : Hid (w.heap.size < W0.heap.size) := by unfold Hid;rw [SZ.out];omega
 have r0 := P31.out.c0;have r1 := P31.out.c1;have f0 := P31.out.fz 0;have f1 := P31.out.fz 1;clear HS P3 G0 EW m1 b SZ k1 k2 k3 k4 k5;go_wp2;exact bodyPost_ret (zZB Tryz.results119 (P31.out.set _ _) _ (by rfl)) rfl ⟨_,rfl,(HM.out.mono (Nat.le_of_lt HB.out)).box P31.out _ _,bset (bset G1.out (Nat.le_refl _)) (Nat.le_refl _)⟩
abbrev fnPick2 (pb ib : Nat) : Value := .func (.func 119) #[] #[.pointer (some ⟨pb,0,none⟩),.pointer (some ⟨ib,0,none⟩)]
theorem eachPick2_any {w : World} {B pb ib k i : Nat} {v jv : Value} {pss : List (List (Value × Value))} {zss : List (List Int)} {js : List Nat} (hj : In9 w jv (js.map (fun n : Nat => (n : Int)))) (hp : w.cell? ⟨pb,0,none⟩ = some v) (hv : Prr B w v pss) (hz : Ziss w pss zss k) (hi : w.cell? ⟨ib,0,none⟩ = some (.int .i64 (i : Int))) (hil : i < pss.length) (hjl : ∀ j ∈ js,j < (zss.getD i []).length) :
  Calls Tryz.prog 118 #[jv,fnPick2 pb ib] w (zTE w (js.map (ent9 zss i)) k) := by
 have J0 := hid hj;have V0 := hid hv;have Z0 := hid hz;have P0 := hid hp;have I0 := hid hi;have HIL := hid hil;have HJL : Hid (∀ j (h : j < js.length),js[j] < (zss.getD i []).length) := fun j h => hjl _ (List.getElem_mem h)
 have HMP : Hid (js.map (ent9 zss i) = (List.range js.length).map fun j => ent9 zss i (js.getD j 0)) := by
  unfold Hid
  apply List.ext_getElem
  ·simp
  ·intro j h1 h2
   simp at h1;simp [h1]
 obtain ⟨a0,c0,rfl,hc0,hn0,hf0⟩ := hj.form;obtain ⟨n,hn⟩ : ∃ n,js.length = n := ⟨_,rfl⟩
 rw [List.length_map,hn] at J0 hc0 hn0 ⊢;rw [hn] at HMP;have HN := hid hn;have F0 := hid hf0;clear hj hv hz hp hi hil hjl hf0 hn;generalize js.map (ent9 zss i) = RS at *;go_enter Tryz.func118,Tryz.ntmps118;go_wp2_with (at_make;refine zYA _ rfl _ _ rfl _ _ n n rfl rfl rfl rfl (Nat.le_refl _) (by omega) ?_)
 intro w1 hrow hb1 hsz1;have H0 : Hid (zmE w w.heap.size n (fun j => ent9 zss i (js.getD j 0)) k n (.int .i64 0) w1) := ⟨0,rfl,Nat.zero_le _,by omega,Fil.start hrow _ _,hb1⟩
 clear hrow hb1 hsz1;go_wp2_with fail
 go_loopg [13] n (fun gk s13 wx => zmE w w.heap.size n (fun j => ent9 zss i (js.getD j 0)) k gk s13 wx)
 case atStart => exact H0.out
 case round =>
  clear H0;obtain ⟨t,rfl,hin,hg,hfil,hG⟩ := hrel;have FI := hid hfil;have G := hid hG;have HG := hid hg;clear hfil hG hg
  by_cases hlt : t < n
  ·have hlt' : (t : Int) < (n : Int) := by omega
   obtain ⟨b1,o1,rfl⟩ := F0.out (fun e => by have := HN.out;simp at e;rw [e] at this;simp at this;omega);have ht : t < js.length := by rw [HN.out];exact hlt
   have k0 := (J0.out.now G.out).at (i := t) (by rw [List.length_map];exact ht);rw [List.getElem_map] at k0;have HS := hid (pick11_any (cnow G.out P0.out) (V0.out.now G.out) (Z0.out.now G.out) (cnow G.out I0.out) HIL.out (HJL.out t ht));have ej : js[t] = js.getD t 0 := by simp [ht]
   rw [ej] at k0 HS;have hw := zpA (i := t) (by omega);clear ej ht;generalize hjt : js.getD t 0 = jt at *;have HJT := hid hjt;clear hjt;go_wp2_with fail;refine HS.out.mono ?_;rintro e w1 ⟨r,rfl,m1,b⟩;have FI1 := hid (FI.out.step b);have G1 := hid (below_step G.out b);have M1 := hid m1.zc;obtain ⟨nr,xr,ar,cr,rfl⟩ := m1.parts;obtain ⟨m0,am,lm,cm,e0,e1,e2,e3⟩ := FI1.out.cells hlt;have HN1 : Hid (zmE w w.heap.size n (fun j => ent9 zss i (js.getD j 0)) k (n - (t + 1)) (.int .i64 ((t + 1 : Nat) : Int)) ((w1.setCell ⟨w.heap.size,t * 2,none⟩ (.bool nr)).setCell ⟨w.heap.size,t * 2 + 1,none⟩ (.slice ar xr.length cr))) :=
    ⟨t + 1,rfl,by omega,rfl,FI1.out.put hlt (by rw [HJT.out];exact M1.out),bset (bset G1.out (Nat.le_refl _)) (Nat.le_refl _)⟩
   have HMM : Hid (n - (t + 1) < gk) := by unfold Hid;rw [HG.out];omega
   clear HS FI G HG FI1 G1 M1 m1 b k0 HJT;go_wp2_with fail;go_roundg (n - (t + 1))
   case rel => exact HN1.out
   case measure => exact HMM.out
  ·have hlt' : ¬ (t : Int) < (n : Int) := by omega
   obtain rfl : t = n := by omega
   obtain ⟨ps,p1,p2⟩ := FI.out.done (B := w.heap.size) (Nat.le_refl _) (by omega);rw [← HMP.out] at p2;have FIN : Hid (zTE w RS k (.returned (.slice (some ⟨w.heap.size,0,none⟩) t t)) wr) := ⟨_,ps,rfl,p1,p2,G.out⟩
   clear FI G HG p1 p2;go_wp2;go_ret;exact FIN.out
theorem pick1_any {w : World} {B pb cb k i : Nat} {v jv : Value} {pss : List (List (Value × Value))} {zss : List (List Int)} {js : List Nat} (hc : w.cell? ⟨cb,0,none⟩ = some jv) (hj : In9 w jv (js.map (fun n : Nat => (n : Int)))) (hp : w.cell? ⟨pb,0,none⟩ = some v) (hv : Prr B w v pss) (hz : Ziss w pss zss k) (hil : i < pss.length) (hjl : ∀ j ∈ js,j < (zss.getD i []).length) :
  Calls Tryz.prog 117 #[.int .i64 (i : Int),.pointer (some ⟨cb,0,none⟩),.pointer (some ⟨pb,0,none⟩)] w (zTE w (js.map (ent9 zss i)) k) := by
 obtain ⟨W0,hW⟩ : ∃ W0,w.alloc (.cells #[.int .i64 (i : Int)] 3) = W0 := ⟨_,rfl⟩
 obtain ⟨b0,sz0⟩ := alo1 w (.cells #[.int .i64 (i : Int)] 3);rw [hW] at b0 sz0;have hi : W0.cell? ⟨w.heap.size,0,none⟩ = some (.int .i64 (i : Int)) := by rw [← hW];exact (Cel.new w 3 [.int .i64 (i : Int)]).at (i := 0) rfl
 have HC := hid (eachPick2_any (hj.now b0) (cnow b0 hp) (hv.now b0) (hz.now b0) hi hil hjl);obtain ⟨a0,c0,rfl,-,-,-⟩ := hj.form;have k0 : (w.alloc (.cells #[.int .i64 (i : Int)] 3)).cell? ⟨cb,0,none⟩ = some (.slice a0 (js.map (fun n : Nat => (n : Int))).length c0) := by rw [hW];exact cnow b0 hc
 have G0 := hid b0;have EW := hid hW;clear hc hj hp hv hz hil hjl b0 hW sz0 hi;generalize js.map (ent9 zss i) = RS at *;generalize (js.map (fun n : Nat => (n : Int))).length = lj at *;go_enter Tryz.func117,Tryz.ntmps117;go_wp2_with fail;rw [EW.out];refine HC.out.mono ?_;rintro e w1 ⟨u,ps,rfl,p1,p2,b⟩;have FIN : Hid (zTE w RS k (.returned u) w1) := ⟨u,ps,rfl,p1.mono G0.out.size,p2,below_step G0.out b⟩
 clear HC G0 EW p1 p2 b k0;go_wp2;go_ret;exact FIN.out
end Go.Proofs.YtfeofdpnhhiclaaGreat
