/-
 QEachM11ToPr12: EachM11, Ln11, Of11, Touch, Pr12, joined.
-/
import Derived.Test.YtmnecbniappnaaaGreatQLm6ToLeastA9
import Derived.Test.YtmnecbniappnaaaGreatQWordsToCarry
import Derived.Below

set_option maxRecDepth 100000
set_option maxHeartbeats 6400000
set_option linter.unusedVariables false
set_option linter.unusedSimpArgs false
namespace Go.Proofs.YtmnecbniappnaaaGreat
open Go.RowKit
theorem FilM.doneN {w : World} {g n : Nat} {F : Nat → Int} {k : Nat} (h : FilM w g n n F k) : ∃ ps,Arr w g ps ∧ ps.length = n ∧ Zms w ps ((List.range n).map F) k := by
 obtain ⟨ps,h1,rfl,h3⟩ := h;refine ⟨ps,h1,rfl,by simp,fun j p z hp hz => ?_⟩;have hj : j < ps.length := (List.getElem?_eq_some_iff.1 hp).1;rw [List.getElem?_map,List.getElem?_range hj,Option.map_some,Option.some.injEq] at hz;subst hz;exact h3 j p hj hp
def zXG (w : World) (g n : Nat) (F : Nat → Int) (k gk : Nat) (s : Value) (wx : World) : Prop := ∃ i : Nat,s = .int .i64 (i : Int) ∧ i ≤ n ∧ gk = n - i ∧ FilM wx g n i F k ∧ Below w.heap.size w wx
def zFE (w : World) (zs : List Int) (k : Nat) (e : Ending) (w' : World) : Prop := ∃ g n ps,e = .returned (.slice (some ⟨g,0,none⟩) n n) ∧ w.heap.size ≤ g ∧ ps.length = n ∧ Arr w' g ps ∧ Zms w' ps zs k ∧ Below w.heap.size w w'
theorem eachLeastM_any {w : World} {B k : Nat} {v : Value} {ps : List (Value × Value)} {zs : List Int} (hv : Prs B w v ps) (hz : Zis w ps zs k) :
  Calls Tryz.prog 54 #[v,zwE] w (zFE w zs k) := by
 have V0 := hid (zcG hv hz);have HMP : Hid (zs = (List.range zs.length).map fun j => zs.getD j 0) := by
  unfold Hid
  apply List.ext_getElem
  ·simp
  ·intro j h1 h2
   simp [h1]
 obtain ⟨a0,c0,rfl,hc0,hn0,hf0⟩ := V0.out.form9;obtain ⟨n,hn⟩ : ∃ n,zs.length = n := ⟨_,rfl⟩
 rw [hn] at V0 hc0 hn0 HMP ⊢;have HN := hid hn;have F0 := hid hf0;clear hv hz hf0 hn;go_enter Tryz.func54,Tryz.ntmps54;go_wp2_with (at_make;refine zcA _ rfl _ _ rfl _ _ n n rfl rfl rfl rfl (Nat.le_refl _) (by omega) ?_)
 intro w1 hrow hb1 hsz1;have H0 : Hid (zXG w w.heap.size n (fun j => zs.getD j 0) k n (.int .i64 0) w1) := ⟨0,rfl,Nat.zero_le _,by omega,FilM.start hrow _ _,hb1⟩
 clear hrow hb1 hsz1;go_wp2_with fail
 go_loopg [13] n (fun gk s13 wx => zXG w w.heap.size n (fun j => zs.getD j 0) k gk s13 wx)
 case atStart => exact H0.out
 case round =>
  clear H0;obtain ⟨i,rfl,hin,hg,hfil,hG⟩ := hrel;have FI := hid hfil;have G := hid hG;have HG := hid hg;clear hfil hG hg
  by_cases hlt : i < n
  ·have hlt' : (i : Int) < (n : Int) := by omega
   obtain ⟨b1,o1,rfl⟩ := F0.out (fun e => by have := HN.out;rw [e] at this;simp at this;omega);obtain ⟨nf,xf,adf,qf,k0,k1,zf⟩ := (V0.out.now G.out).at9 (i := i) (by rw [HN.out];exact hlt);rw [zvE] at zf;obtain ⟨V1,hV⟩ : ∃ V1,wr.alloc (duo (.bool nf) (.slice adf xf.length qf)) = V1 := ⟨_,rfl⟩
   obtain ⟨b,sz1⟩ := alo1 wr (duo (.bool nf) (.slice adf xf.length qf));rw [hV] at b sz1;have PN : Hid (Duo V1 wr.heap.size (.bool nf) (.slice adf xf.length qf)) := by unfold Hid;rw [← hV];exact Duo.new wr _ _
   have HS := hid (zqE (zf.now b));have FI0 := hid (FI.out.step b);have G0 := hid (below_step G.out b);have n0 := PN.out.c0;have n1 := PN.out.c1;rw [← hV] at n0 n1;have EV := hid hV;have hw := zVA (i := i) (by omega);clear zf b sz1 hV PN FI G;go_wp2_with fail;rw [EV.out];refine HS.out.mono ?_;rintro e w1 ⟨r,rfl,m1,b⟩;have FI1 := hid (FI0.out.step b);have G1 := hid (below_step G0.out b);have M1 := hid (m1.mono (Nat.zero_le _));obtain ⟨nr,xr,ar,cr,rfl⟩ := m1.parts;obtain ⟨m0,am,lm,cm,e0,e1,e2,e3⟩ := FI1.out.cells hlt;have HN1 : Hid (zXG w w.heap.size n (fun j => zs.getD j 0) k (n - (i + 1)) (.int .i64 ((i + 1 : Nat) : Int)) ((w1.setCell ⟨w.heap.size,i * 2,none⟩ (.bool nr)).setCell ⟨w.heap.size,i * 2 + 1,none⟩ (.slice ar xr.length cr))) :=
    ⟨i + 1,rfl,by omega,rfl,FI1.out.put hlt M1.out,bset (bset G1.out (Nat.le_refl _)) (Nat.le_refl _)⟩
   have HMM : Hid (n - (i + 1) < gk) := by unfold Hid;rw [HG.out];omega
   clear HS FI0 G0 HG FI1 G1 M1 m1 b k0 k1 n0 n1 EV;go_wp2_with fail;go_roundg (n - (i + 1))
   case rel => exact HN1.out
   case measure => exact HMM.out
  ·have hlt' : ¬ (i : Int) < (n : Int) := by omega
   obtain rfl : i = n := by omega
   obtain ⟨ps,p1,pl,p2⟩ := FI.out.doneN;rw [← HMP.out] at p2;have FIN : Hid (zFE w zs k (.returned (.slice (some ⟨w.heap.size,0,none⟩) i i)) wr) := ⟨_,_,ps,rfl,Nat.le_refl _,pl,p1,p2,G.out⟩
   clear FI G HG p1 p2 pl;go_wp2;go_ret;exact FIN.out
open Go.RowKit Go.Shelf
attribute [local go_sem] Oper.semAt_some
theorem zaE {w : World} {p : Addr} {v : Value} (h : w.cell? p = some v) : ∃ o : Obj,w.heap[p.block]? = some o ∧ o.isCells = true := by
 cases ho : w.heap[p.block]? with
 | none => simp [World.cell?,ho] at h
 | some o => cases o <;> first | exact ⟨_,rfl,rfl⟩ | (simp [World.cell?,ho] at h)
def KpL (S : Nat → Prop) (B : Nat) (X Y : World) : Prop := X.heap.size ≤ Y.heap.size ∧ (∀ (b : Nat) (o : Obj),b < B → ¬ S b → X.heap[b]? = some o → o.isCells = true → Y.heap[b]? = some o)
theorem KpL.trans {S : Nat → Prop} {B : Nat} {X Y Z : World} (h : KpL S B X Y) (h' : KpL S B Y Z) : KpL S B X Z := ⟨Nat.le_trans h.1 h'.1,fun b o h1 h2 e q => h'.2 b o h1 h2 (h.2 b o h1 h2 e q) q⟩
theorem KpL.refl (S : Nat → Prop) (B : Nat) (X : World) : KpL S B X X := ⟨Nat.le_refl _,fun _ _ _ _ h _ => h⟩
theorem KpL.of {S : Nat → Prop} {B : Nat} {X Y : World} (h : Below X.heap.size X Y) : KpL S B X Y := ⟨h.size,fun b o _ _ e _ => (h.block b (Array.getElem?_eq_some_iff.1 e).1).trans e⟩
theorem KpL.cell {S : Nat → Prop} {B : Nat} {X Y : World} (h : KpL S B X Y) {p : Addr} {v : Value} (hp : X.cell? p = some v) (h1 : p.block < B) (h2 : ¬ S p.block) : Y.cell? p = some v := by
 obtain ⟨o,q1,q2⟩ := zaE hp;exact (World.cell?_of_block ((h.2 _ o h1 h2 q1 q2).trans q1.symm)).trans hp
theorem KpL.wk {S : Nat → Prop} {B : Nat} {X Y : World} (h : KpL S B X Y) (hB : X.heap.size ≤ B) (hn : ∀ b off x,S b → X.cell? ⟨b,off,none⟩ ≠ some (.int .u64 x)) : Wk X Y := by
 refine ⟨h.1,fun g off x e => h.cell e ?_ ?_⟩
 ·obtain ⟨o,q1,q2⟩ := zaE e
  exact Nat.lt_of_lt_of_le (Array.getElem?_eq_some_iff.1 q1).1 hB
 ·exact fun q => hn _ _ _ q e
theorem KpL.put {S : Nat → Prop} {B : Nat} {X : World} {l : Nat} {o o' : Obj} (hl : X.heap[l]? = some o) (ho : o.isCells = false) : KpL S B X (X.putObj l o') :=
 ⟨by simp [World.putObj],fun b o1 _ _ e q => by
  have hne : b ≠ l := fun r => by subst r;rw [hl,Option.some.injEq] at e;subst e;rw [ho] at q;cases q
  exact (World.putObj_heap_other (by omega)).trans e⟩
def AtL (k : Nat) (m : List (List Int)) (s : Nat × List Nat) (x : Nat × Nat) (X : World) : Prop := x.1 = s.2.length ∧ s.2.length < m.length ∧ s.1 ≤ x.2 ∧ s.1 ≤ X.heap.size ∧ (∀ g ∈ s.2,g ≠ x.2) ∧ ∃ ps,Arr X x.2 ps ∧ Zms X ps (zgB m s.2.length) k
abbrev encL (c : Nat) (x : Nat × Nat) : Array Value := #[.int .i64 (x.1 : Int),.slice (some ⟨x.2,0,none⟩) c c]
theorem Prs.kept11 {B : Nat} {w X : World} {v : Value} {ps : List (Value × Value)} (h : Prs B w v ps) (hs : w.heap.size ≤ X.heap.size) (hk : ∀ (p : Addr) (u : Value),B ≤ p.block → p.block < w.heap.size → w.cell? p = some u → X.cell? p = some u) : Prs B X v ps := by
 obtain ⟨a,c,h1,h2,h3,hx,h4⟩ := h;refine ⟨a,c,h1,h2,h3,hx,?_⟩;rcases h4 with h4 | ⟨b,off,h5,h5',h6,h7⟩
 ·exact .inl h4
 ·exact .inr ⟨b,off,h5,h5',Nat.lt_of_lt_of_le h6 hs,fun j p hp => ⟨hk _ _ h5' h6 (h7 j p hp).1,hk _ _ h5' h6 (h7 j p hp).2⟩⟩
theorem rowAt_rowsL {r c i : Nat} {zs : List Int} (hi : i < r) : zgB (rowsL r c zs) i = (zs.drop (i * c)).take c := by simp [zgB,rowsL,hi]
theorem Zis.row {w : World} {ps : List (Value × Value)} {zs : List Int} {k i c : Nat} (h : Zis w ps zs k) : Zis w ((ps.drop i).take c) ((zs.drop i).take c) k := by
 refine ⟨by simp [h.1],fun j p z hp hz => ?_⟩;rw [List.getElem?_take] at hp hz
 by_cases q : j < c
 ·rw [if_pos q,List.getElem?_drop] at hp hz
  exact h.2 _ p z hp hz
 ·rw [if_neg q] at hp;cases hp
theorem lines1_in {S : Nat → Prop} {l n Bw Bs ga r c k cap : Nat} {ps : List (Value × Value)} {zs : List Int} {W : World} (hn : 1 ≤ n) (J : Nat × List Nat → World → Prop)
  (hc : Cel W Bs 24 (matc r c (.slice (some ⟨ga,0,none⟩) (r * c) cap))) (hA : Prs (Bw + 1) W (.slice (some ⟨ga,0,none⟩) (r * c) cap) ps) (hp : ps.length = r * c) (hz : Zis W ps zs k) (hr : r ≤ 64) (hc4 : c ≤ 64)
  (hJb : ∀ s A B,J s A → Below A.heap.size A B → J s B) (h0 : ∀ B,W.heap.size ≤ B → J (B,[]) W) (hlt : ∀ s A,J s A → ∀ g ∈ s.2,g < A.heap.size) (hBw : Bw < W.heap.size) (hBn : ∀ b off x,S b → W.cell? ⟨b,off,none⟩ ≠ some (.int .u64 x)) (hSB : ∀ b,S b → b ≤ Bw)
  (hY : ∀ s x X,J s X → AtL k (rowsL r c zs) s x X → (∃ X0,J s X0 ∧ X0.heap.size ≤ x.2 ∧ Below X0.heap.size X0 X) → YieldAt Fence.wide (n - 1) Tryz.prog l (encL c x) X fun e Y => e = .returned (.bool true) ∧ J (s.1,s.2 ++ [x.2]) Y ∧ KpL S s.1 X Y) :
  CallsIn Fence.wide n Tryz.prog 52 #[.func (.yield l) #[] #[],.pointer (some ⟨Bs,0,none⟩)] W fun e Y => (∃ v,e = .returned v) ∧ ∃ s,s.2.length = r ∧ J s Y := by
 have x0 := hc.at (i := 0) rfl;have x1 := hc.at (i := 1) rfl;have x2 := hc.at (i := 2) rfl;have HRO := hid (rowsOf_at (w0 := W) (w := W) hA hp hr hc4);have HA := hid hA;have HZ := hid hz;have HJ := hid hJb;have H0 := hid h0;have HL := hid hlt;have HY := hid hY;clear hA hz hJb h0 hlt hY hc;refine callsIn_of_wp Tryz.func52 rfl trivial ?_ rfl;simp only [Tryz.ntmps52,List.size_toArray,List.length_cons,List.length_nil,Nat.reduceAdd,Nat.reduceSub,Array.replicate_succ,Array.replicate_zero,List.push_toArray,List.append_toArray,List.nil_append,List.cons_append];have HBn := hid hBn;have HSB := hid hSB;clear hBn hSB;gi_wp2_with fail;have hBn := HBn.out;clear HBn;refine ⟨trivial,(callsIn_wide.2 HRO.out).mono ?_⟩;rintro e W2 ⟨g,rfl,hg1,hg2,hrows,b⟩;have HR := hid hrows;have HB := hid b;have HBN : Hid (∀ b off x,S b → W2.cell? ⟨b,off,none⟩ ≠ some (.int .u64 x)) := fun b off x hs e => hBn b off x hs ((HB.out.cell (p := ⟨b,off,none⟩) (Nat.lt_of_le_of_lt (HSB.out b hs) hBw)).symm.trans e)
 have H2 := hid (HJ.out _ _ _ (H0.out W2.heap.size b.size) b);clear hrows b HRO x0 x1 x2 hBn;gi_wp2_with fail
 gi_loopw [8] (fun i wr => ∃ (t : Nat) (gs : List Nat),t ≤ r ∧ i = .int .i64 (t : Int) ∧ gs.length = t ∧ J (W2.heap.size,gs) wr ∧ KpL S W2.heap.size W2 wr)
  (fun i _ => ((r : Int) - (intOf i)).toNat)
 case atStart => exact ⟨0,[],Nat.zero_le _,rfl,rfl,H2.out,KpL.refl _ _ _⟩
 case round =>
  obtain ⟨t,gs,htr,rfl,hgs,hj,hk⟩ := hrel;have HG := hid hgs;have JJ := hid hj;have KK := hid hk;clear hgs hj hk H2
  by_cases hlt : t < r
  ·have hlt' : (t : Int) < (r : Int) := by omega
   obtain ⟨ai,ci,e0,p0⟩ := HR.out t hlt;have k0 : wr.cell? ⟨g,t,none⟩ = some (.slice ai c ci) := KK.out.cell e0 hg2 (fun q => by have := HSB.out _ q;dsimp only at this;omega);have p1 : Prs (Bw + 1) wr (.slice ai c ci) ((ps.drop (t * c)).take c) := by
    refine p0.kept11 (Nat.le_trans HB.out.size KK.out.1) (fun p u h1 h2 e => ?_);exact KK.out.cell ((HB.out.cell h2).trans e) (Nat.lt_of_lt_of_le h2 HB.out.size) (fun q => by have := HSB.out _ q;omega)
   have z1 : Zis wr ((ps.drop (t * c)).take c) ((zs.drop (t * c)).take c) k := ((HZ.out.row).wk (Wk.of HB.out)).wk (KK.out.wk (Nat.le_refl _) HBN.out);have HEL := hid (eachLeastM_any p1 z1);have HP := hid p1;have HZL := hid z1.1;have hw := zVA (i := t) (by omega);clear p0 p1 z1 e0;gi_wp2_with fail;refine ⟨trivial,(callsIn_wide.2 HEL.out).mono ?_⟩;rintro e w3 ⟨g3,n3,ps3,rfl,h1,h2,h3,h4,b⟩;have hn3 : n3 = c := by
    rw [← h2,h4.1,← HZL.out];obtain ⟨a',c',q1,_⟩ := HP.out;simp only [Value.slice.injEq] at q1;exact q1.2.1.symm
   subst hn3;have hy := HY.out (W2.heap.size,gs) (t,g3) w3 (HJ.out _ _ _ JJ.out b) ⟨HG.out.symm,by rw [HG.out,zbB];exact hlt,Nat.le_trans KK.out.1 h1,Nat.le_trans KK.out.1 b.size,fun q hq e => by
     have := HL.out _ _ JJ.out q hq;omega,ps3,h3,by rw [HG.out,rowAt_rowsL hlt];exact h4⟩ ⟨wr,JJ.out,h1,b⟩
   obtain ⟨fn,tmps,assign,body,hy,hR⟩ := hy;dsimp only [encL] at hy;have KK3 := hid (KK.out.trans (KpL.of (S := S) b));clear h1 h2 h3 h4 b HEL HP HZL JJ KK k0;gi_wp2;refine hR.mono ?_;rintro e W4 ⟨rfl,hj4,hk4⟩;gi_wp2;go_roundw
   case rel => exact ⟨t + 1,gs ++ [g3],by omega,rfl,by rw [List.length_append,HG.out];rfl,hj4,KK3.out.trans hk4⟩
   case measure => simp [intOf];omega
  ·obtain rfl : t = r := by omega
   have hlt' : ¬ (t : Int) < (t : Int) := by omega
   gi_wp2;go_end0;exact ⟨⟨_,rfl⟩,W2.heap.size,gs,HG.out,JJ.out⟩
def zgI (w : World) (r c : Nat) (zs : List Int) (k : Nat) (e : Ending) (w' : World) : Prop := ∃ Bs ga ps,e = .returned (.func (.func 52) #[] #[.pointer (some ⟨Bs,0,none⟩)]) ∧ Cel w' Bs 24 (matc r c (.slice (some ⟨ga,0,none⟩) (r * c) (r * c))) ∧ w.heap.size ≤ ga ∧ Arr w' ga ps ∧ ps.length = r * c ∧ Zcs w' ps zs k ∧ Below w.heap.size w w'
theorem lines_yes {w : World} {v : Value} {r c : Nat} {zs : List Int} {k : Nat} (h : Mx w v r c zs k) : Calls Tryz.prog 28 #[v] w (zgI w r c zs k) := by
 have M0 := hid h;obtain ⟨aa,ca,rfl,hr,hc⟩ := h.form;have HZL : Hid (zs.length = r * c) := by obtain ⟨_,_,_,_,_,h,_⟩ := h;exact h
 obtain ⟨la,hla⟩ : ∃ la,r * c = la := ⟨_,rfl⟩
 rw [hla] at M0 HZL ⊢;obtain ⟨W0,hW⟩ : ∃ W0,w.alloc (matO r c (.slice aa la ca)) = W0 := ⟨_,rfl⟩
 obtain ⟨b0,sz0⟩ := alo1 w (matO r c (.slice aa la ca));rw [hW] at b0 sz0;have P1 : Hid (Cel W0 w.heap.size 24 (matc r c (.slice aa la ca))) := by unfold Hid;rw [← hW];exact Cel.new w _ _
 have HLE := hid (leastA_yes (M0.out.now b0));have x0 := P1.out.at (i := 0) rfl;have x1 := P1.out.at (i := 1) rfl;have x2 := P1.out.at (i := 2) rfl;rw [← hW] at x0 x1 x2;have G0 := hid b0;have EW := hid hW;have EL := hid hla;clear h hla b0 sz0 hW P1 M0;go_enter Tryz.func28,Tryz.ntmps28;go_wp2_with fail;rw [EW.out];refine HLE.out.mono ?_;rintro e w1 ⟨g,n,ps,rfl,h1,h2,h3,h4,b⟩;obtain rfl : n = la := by rw [← h2,h4.1,HZL.out]
 have FIN : Hid (zgI w r c zs k (.returned (.func (.func 52) #[] #[.pointer (some ⟨w1.heap.size,0,none⟩)])) (w1.alloc (matO r c (.slice (some ⟨g,0,none⟩) n n)))) := by
  have b1 := (alo1 w1 (matO r c (.slice (some ⟨g,0,none⟩) n n))).1;refine ⟨w1.heap.size,g,ps,rfl,?_,Nat.le_trans G0.out.size h1,h3.step b1,by rw [h2,EL.out],h4.now b1,below_step (below_step G0.out b) b1⟩;rw [EL.out];exact Cel.new w1 _ _
 clear h1 h2 h3 h4 b HLE x0 x1 x2 EW G0;go_wp2;go_ret;exact FIN.out
end Go.Proofs.YtmnecbniappnaaaGreat
namespace Go.Proofs.YtmnecbniappnaaaGreat
open Go.RowKit Go.Shelf
attribute [local go_sem] Oper.semAt_some
def zsG (o : Oper) : Bool := match o.op with
 | .defer _ => false
 | _ => true
theorem hno_of11 {ops : Array Oper} (h : ops.all zsG = true) : ∀ (i : Nat) (o : Oper),ops[i]? = some o → ∀ c,o.op ≠ .defer c := fun i o ho c e => by
 have hm := Array.mem_of_getElem? ho;have := (Array.all_eq_true_iff_forall_mem.1 h) o hm;unfold zsG at this;rw [e] at this;cases this
theorem zzC {P : Program} {l n : Nat} {ops : Array Oper} {Q : Exit → Act → World → Prop} (hL : ¬ LetsOut Q) :
  ∀ (os : List Oper) (a : Act) (w : World),(∀ o ∈ os,∀ c,o.op ≠ .defer c) → wpList P ops Q os a w → wpListIn (Fence.wide.inRound l) n P ops Q os a w
 | [],a,w,_,h => h
 | o :: rest,a,w,hno,h => by
  unfold wpList at h;unfold wpListIn
  by_cases hw : Region.wanted o (yielded ops a.tmps) = true
  ·rw [if_pos hw] at h ⊢
   rcases h with h | ⟨_,h⟩
   ·exact Oper.wpIn_mono (fun a w => zzC hL rest a w (fun o ho => hno o (by simp [ho]))) (op_round (hno o (by simp)) h)
   ·exact absurd h hL
  ·rw [if_neg hw] at h ⊢
   exact ⟨fun _ _ => trivial,zzC hL rest _ _ (fun o ho => hno o (by simp [ho])) h⟩
theorem region_roundL {P : Program} {l n id : Nat} {ops : Array Oper} {Q : Exit → Act → World → Prop} {a : Act} {w : World} (hno : ∀ (i : Nat) (o : Oper),ops[i]? = some o → ∀ c,o.op ≠ .defer c) (hL : ¬ LetsOut Q)
  (h : wpList P ops Q ops.toList a w) : (Code.region id ops false).wpIn (Fence.wide.inRound l) n P Q a w :=
 wpIn_region_list (zzC hL _ _ _ (fun o ho c => by
  obtain ⟨i,hi,e⟩ := List.getElem_of_mem ho;exact hno i o (by rw [← e];simp) c) h)
def Kc (X Y : World) : Prop := X.heap.size ≤ Y.heap.size ∧ ∀ (b : Nat) (o : Obj),X.heap[b]? = some o → o.isCells = true → Y.heap[b]? = some o
theorem zjC {W W' : World} {row : Option Nat} (hg : W.grownBy W' row) (hr : ∀ r,row = some r → ∃ o : Obj,W.heap[r]? = some o ∧ o.isCells = false) : Kc W W' := ⟨hg.size,fun b o h1 h2 => (grownBy_keeps_cells hg hr h1 h2).trans h1⟩
theorem Kc.cel {X Y : World} (h : Kc X Y) {b : Nat} {T : TypeId} {L : List Value} (d : Cel X b T L) : Cel Y b T L := h.2 b _ d rfl
theorem Kc.arr {X Y : World} (h : Kc X Y) {g : Nat} {ps : List (Value × Value)} (d : Arr X g ps) : Arr Y g ps := ⟨h.cel d.1,d.2⟩
theorem Zm.kc {B k : Nat} {w w' : World} {v : Value} {z : Int} (h : Zm B w v z k) (hk : Kc w w') : Zm B w' v z k := by
 obtain ⟨n1,zs,a,c,e,hm,rest⟩ := h;refine ⟨n1,zs,a,c,e,?_,rest⟩;obtain ⟨hw,h | ⟨g,r,cap,h1,h2,h3,h4,h5,h6⟩⟩ := hm
 ·exact ⟨hw,.inl h⟩
 ·exact ⟨hw,.inr ⟨g,r,cap,h1,h2,h3,h4,h5,hk.2 g _ h6 rfl⟩⟩
theorem Zms.kc {w w' : World} {ps : List (Value × Value)} {zs : List Int} {k : Nat} (h : Zms w ps zs k) (hk : Kc w w') : Zms w' ps zs k := ⟨h.1,fun j p z hp hz => (h.2 j p z hp hz).kc hk⟩
def ShtM (B : Nat) (w : World) (lv : Value) (c : Nat) (gs : List Nat) (m : List (List Int)) (k : Nat) : Prop :=
 w.ownsRow B 22 1 lv gs.length (gs.map (rowv c)) ∧ Ones gs ∧ gs.length = m.length ∧ (∀ g ∈ gs,B ≤ g) ∧ Wide c m ∧ ∀ (j g : Nat),gs[j]? = some g → ∃ ps,Arr w g ps ∧ Zms w ps (zgB m j) k
theorem ShtM.kc {B c k : Nat} {w w' : World} {lv : Value} {gs : List Nat} {m : List (List Int)} (h : ShtM B w lv c gs m k) (hk : Kc w w') : ShtM B w' lv c gs m k := by
 obtain ⟨h1,h2,h3,h4,h5,h6⟩ := h;refine ⟨?_,h2,h3,h4,h5,fun j g hg => ?_⟩
 ·obtain ⟨q1,q2 | ⟨g,cap,cur,q2,q3,q4,q5⟩⟩ := h1
  ·exact ⟨q1,.inl q2⟩
  ·exact ⟨q1,.inr ⟨g,cap,cur,q2,q3,hk.2 g _ q4 rfl,q5⟩⟩
 ·obtain ⟨ps,p1,p2⟩ := h6 j g hg
  exact ⟨ps,hk.arr p1,p2.kc hk⟩
theorem kc_below {X Y : World} (h : Below X.heap.size X Y) : Kc X Y := ⟨h.size,fun b o e _ => (h.block b (Array.getElem?_eq_some_iff.1 e).1).trans e⟩
theorem ShtM.nil (B : Nat) (w : World) (c k : Nat) : ShtM B w (.slice none 0 0) c [] [] k := ⟨World.ownsRow_nil _ _ _ _,fun i j g h => by simp at h,rfl,fun g h => by simp at h,fun r h => by simp at h,fun j g h => by simp at h⟩
theorem ShtM.off {B c k b i : Nat} {T : TypeId} {L : List Value} {u : Value} {w : World} {lv : Value} {gs : List Nat} {m : List (List Int)} (h : ShtM B w lv c gs m k) (d : Cel w b T L) (h1 : T ≠ 22) (h2 : T ≠ 40) (h3 : T ≠ 42) : ShtM B (w.setCell ⟨b,i,none⟩ u) lv c gs m k := by
 obtain ⟨q1,q2,q3,q4,q5,q6⟩ := h;refine ⟨zvB q1 (fun g hg hlt => ?_),q2,q3,q4,q5,fun j g hg => ?_⟩
 ·refine Below.heap_setCell w _ u g (fun e => ?_)
  have e' : g = b := by simpa using e
  subst e';obtain ⟨_,⟨r2,_⟩ | ⟨g',cap,cur,r2,r3,r4,r5⟩⟩ := q1
  ·rw [r2] at hg;cases hg
  ·rw [r2] at hg
   simp only [Value.ownBlock,Option.some.injEq] at hg;subst hg;have := r4.symm.trans (show w.heap[_]? = _ from d);simp at this;exact h1 this.2.symm
 ·obtain ⟨ps,p1,p2⟩ := q6 j g hg
  have hne : b ≠ g := fun e => by
   subst e;have := (show w.heap[b]? = _ from p1.1).symm.trans (show w.heap[b]? = _ from d);simp at this;exact h2 this.2.symm
  exact ⟨ps,⟨p1.1.ne hne,p1.2⟩,p2.ty (Ty.set d) (fun e => h3 e.symm)⟩
theorem AtL.own {k B : Nat} {m : List (List Int)} (s : Nat × List Nat) (x : Nat × Nat) : OwnFrom B (fun (_ : Unit) W => AtL k m s x W) := fun _ W W' row hs hg hr => by
 obtain ⟨h1,h2,h3,h4,h5,ps,h6,h7⟩ := hs;have hk := zjC hg (fun r e => (hr r e).2);exact ⟨h1,h2,h3,Nat.le_trans h4 hg.size,h5,ps,hk.arr h6,h7.kc hk⟩
theorem ShtM.lt {B c k : Nat} {w : World} {lv : Value} {gs : List Nat} {m : List (List Int)} (h : ShtM B w lv c gs m k) : ∀ g ∈ gs,g < w.heap.size := fun g hg => by
 obtain ⟨j,hj,e⟩ := List.getElem_of_mem hg;obtain ⟨ps,p1,_⟩ := h.2.2.2.2.2 j g (by rw [List.getElem?_eq_getElem hj,e]);exact p1.1.blk
theorem zQC {w : World} {B B' : Nat} {e : TypeId} {size : Nat} {v : Value} {n : Nat} {xs : List Value} (h : w.ownsRow B e size v n xs) (hb : B' ≤ B) : w.ownsRow B' e size v n xs := by
 obtain ⟨q1,q2 | ⟨g,cap,cur,q2,q3,q4⟩⟩ := h
 ·exact ⟨q1,.inl q2⟩
 ·exact ⟨q1,.inr ⟨g,cap,cur,q2,Nat.le_trans hb q3,q4⟩⟩
end Go.Proofs.YtmnecbniappnaaaGreat
namespace Go.Proofs.YtmnecbniappnaaaGreat
open Go.RowKit
structure Touch (S : Nat → Prop) (w w' : World) : Prop where
 os : w'.os = w.os
 tape : w'.tape = w.tape
 output : w'.output = w.output
 size : w.heap.size ≤ w'.heap.size
 block : ∀ k,k < w.heap.size → ¬ S k → w'.heap[k]? = w.heap[k]?
theorem Touch.refl (S : Nat → Prop) (w : World) : Touch S w w := ⟨rfl,rfl,rfl,Nat.le_refl _,fun _ _ _ => rfl⟩
theorem Touch.trans {S : Nat → Prop} {a b c : World} (h : Touch S a b) (k : Touch S b c) : Touch S a c :=
 ⟨k.os.trans h.os,k.tape.trans h.tape,k.output.trans h.output,Nat.le_trans h.size k.size,fun i hi hS => (k.block i (Nat.lt_of_lt_of_le hi h.size) hS).trans (h.block i hi hS)⟩
theorem Touch.ofBelow {S : Nat → Prop} {w w' : World} (h : Below w.heap.size w w') : Touch S w w' := ⟨h.os,h.tape,h.output,h.size,fun k hk _ => h.block k hk⟩
theorem Touch.drewN {S : Nat → Prop} {w0 w : World} (h : Touch S w0 w) (n : Nat) : Touch S w0 (w.drewN n) := ⟨h.os,h.tape,h.output,h.size,h.block⟩
theorem Touch.setCell {S : Nat → Prop} {w0 w : World} (h : Touch S w0 w) {g : Nat} (hg : w0.heap.size ≤ g ∨ S g) (j : Nat) (x : Value) : Touch S w0 (w.setCell ⟨g,j,none⟩ x) := by
 have b := (Below.refl g w).setCell (p := ⟨g,j,none⟩) (Nat.le_refl _) x;refine ⟨b.os.trans h.os,b.tape.trans h.tape,b.output.trans h.output,Nat.le_trans h.size b.size,fun k hk hS => ?_⟩;rw [Below.heap_setCell w _ x k (fun e => by subst e;rcases hg with q | q;(· exact absurd hk (by omega));exact hS q)];exact h.block k hk hS
theorem Touch.grown {S : Nat → Prop} {w0 w w' : World} {row : Option Nat} (h : Touch S w0 w) (hg : w.grownBy w' row) (hr : ∀ k,row = some k → w0.heap.size ≤ k ∨ S k) : Touch S w0 w' :=
 ⟨hg.os.trans h.os,hg.tape.trans h.tape,hg.output.trans h.output,Nat.le_trans h.size hg.size,fun k hk hS => by
  rw [hg.block k (Nat.lt_of_lt_of_le hk h.size) (fun e => by rcases hr k e.symm with q | q;(· omega);exact hS q)];exact h.block k hk hS⟩
end Go.Proofs.YtmnecbniappnaaaGreat
namespace Go.Proofs.YtmnecbniappnaaaGreat

end Go.Proofs.YtmnecbniappnaaaGreat
