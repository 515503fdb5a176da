/-
 QLp18ToTp18: Lp18, Pc18, Scaled9, KronG9, Kron9, Ints9, PickA9, PickB9, El13, Ix13, Cl13, So13, De13, Dt13, Ld13, Pk13, Fresh, Far, Cpy16, Tp18, joined.
-/
import Derived.Test.YtmnecbniappnaaaGreatQAr18ToPv18
import Derived.Test.YtmnecbniappnaaaGreatQLi18ToZg18
import Derived.Test.YtmnecbniappnaaaGreatQWj18ToR5Cmp
import Derived.Test.YtmnecbniappnaaaGreatQR5AddToTn12
import Derived.Test.YtmnecbniappnaaaGreatQVm12ToLx18
import Derived.Test.YtmnecbniappnaaaGreatQLm6ToLeastA9
import Derived.Test.YtmnecbniappnaaaGreatQDz12ToRl17
import Derived.Test.YtmnecbniappnaaaGreatQZMetToGcd6
import Derived.Test.YtmnecbniappnaaaGreatQFil9ToRowsOf9
import Derived.Deep.CutRange
import Derived.Test.YtmnecbniappnaaaGreatQZOnesToZCmp
import Derived.Test.YtmnecbniappnaaaGreatQCat9ToOpenM9
import Derived.Test.YtmnecbniappnaaaGreatQMadeToByWord
import Derived.Laws.AppendOwn
import Derived.Laws.AppendOwnNone
import Derived.Test.YtmnecbniappnaaaGreatQWordsToCarry
import Derived.Deep.RegionLaw
import Derived.Deep.RegionHeldLaw
import Derived.Test.YtmnecbniappnaaaGreatQTailLToTo18
import Derived.Deep.Cut

set_option maxRecDepth 100000
set_option maxHeartbeats 6400000
set_option linter.unusedVariables false
set_option linter.unusedSimpArgs false
namespace Go.Proofs.YtmnecbniappnaaaGreat
open Go.RowKit
def zfH (w : World) (A0 : List Value) (wx : World) : Prop := Cel wx w.heap.size 24 A0 ∧ Below w.heap.size w wx
theorem zfH.step {w x y : World} {A0 : List Value} (h : zfH w A0 x) (hb : Below x.heap.size x y) : zfH w A0 y := ⟨h.1.step hb,below_step h.2 hb⟩
def zgH (w : World) (m r : Nat) (γ : Nat → Nat) (A0 : List Value) (gk : Nat) (s4 s5 : Value) (wx : World) : Prop :=
 ∃ i : Nat,s5 = .int .i64 (i : Int) ∧ i ≤ m ∧ i ≤ r ∧ gk = m - i ∧ Ivs w.heap.size wx s4 (zwA γ i) ∧ zfH w A0 wx
def zQI (W : World) (n : Nat) (F : Nat → Int) (gk : Nat) (s : Value) (wx : World) : Prop :=
 ∃ c : Nat,s = .int .i64 (c : Int) ∧ c ≤ n ∧ gk = n - c ∧ (∀ j,j < c → F j = 0) ∧ Below W.heap.size W wx
def zeF (W : World) (lo N : Nat) (gk : Nat) (s : Value) (wx : World) : Prop :=
 ∃ t : Nat,s = .int .i64 (t : Int) ∧ lo ≤ t ∧ t ≤ N ∧ gk = N - t ∧ Below W.heap.size W wx
theorem Ivs.at18 {B : Nat} {w : World} {v : Value} {l : List Nat} (h : Ivs B w v l) {t : Nat} (ht : t < l.length) : ∃ g cap,v = .slice (some ⟨g,0,none⟩) l.length cap ∧ w.cell? ⟨g,t,none⟩ = some (.int .i64 (l.getD t 0 : Nat)) := by
 have h0 := h;obtain ⟨q1,⟨q2,q3⟩ | ⟨g,cap,cur,q2,q3,q4,q5,q6⟩⟩ := h
 ·omega
 ·refine ⟨g,cap,q2,?_⟩
  have h1 : w.ownsRow B 3 1 (.slice (some ⟨g,0,none⟩) l.length cap) l.length (l.map fun (a : Nat) => Value.int .i64 (a : Int)) := ⟨q1,.inr ⟨g,cap,cur,rfl,q3,q4,q5,q6⟩⟩
  rw [h1.cellAt t (by omega)];simp [ht]
theorem zZF {B b : Nat} {w w' : World} {v : Value} {l : List Nat} {L : List Value} (h : Cel w b 24 L) (hI : Ivs B w v l) (hg : w.grownBy w' v.ownBlock) : Cel w' b 24 L := by
 refine (hg.block b h.blk fun q => ?_).trans h;obtain ⟨_,⟨q1,_⟩ | ⟨g',cap',cur,q1,_,q4,_⟩⟩ := hI
 ·rw [q1] at q;cases q
 ·rw [q1] at q
  simp only [Value.ownBlock,Option.some.injEq] at q;subst q;have := (show w.heap[_]? = _ from h).symm.trans q4;simp at this
theorem fst_row18 {n m r i c : Nat} {γ : Nat → Nat} {X : Nat → Nat → Int} (hE : Ec18 n m r id γ X) (hi : i < m) (hc : c < n) (h0 : ∀ j,j < c → X i j = 0) (h1 : X i c ≠ 0) : i < r ∧ γ i = c := by
 have hr : i < r := Nat.lt_of_not_le fun q => h1 (hE.rest i hi (fun a ha q1 => by simp only [id] at q1;omega) c hc)
 refine ⟨hr,?_⟩;have hp := hE.pos i hr;simp only [id] at hp;rcases Nat.lt_trichotomy (γ i) c with q1 | q1 | q1
 ·have := h0 _ q1;omega
 ·exact q1
 ·have := hE.zero i c hr q1;simp only [id] at this;exact absurd this h1
theorem lpivots18 {w : World} {v : Value} {m n k r : Nat} {γ : Nat → Nat} {zs : List Int} (h : Mx w v m n zs k) (hk : k ≤ 1099511627776) (hE : Ec18 n m r id γ (en18 n zs)) (hR : Rd18 0 r id γ (en18 n zs)) :
  Calls Tryz.prog 9 #[v] w (zLH w r γ) := by
 obtain ⟨ata,pa,rfl,pa1,pa2,pa3,hm,hn⟩ := h;have hrm : r ≤ m := by
  rcases Nat.eq_zero_or_pos r with q | q
  ·omega
  ·have := hE.rl (r - 1) (by omega);simp only [id] at this;omega
 have hmn : m * n ≤ 64 * 64 := Nat.mul_le_mul hm hn;have HAA : Hid (∀ wx,Below w.heap.size w wx → ∀ i j,i < m → j < n → ∃ b off cap n1 a l c',ata = .slice (some ⟨b,off,none⟩) (m * n) cap ∧ wx.cell? ⟨b,off + (i * n + j) * 2,none⟩ = some (.bool n1) ∧ wx.cell? ⟨b,off + (i * n + j) * 2 + 1,none⟩ = some (.slice a l c') ∧ Zi wx (.agg #[.bool n1,.slice a l c']) (en18 n zs i j) k) := fun wx h i j hi hj => by
  have := (pa1.now h).isI12 (pa2.now h) (t := i * n + j) (by rw [pa3];exact zmE hi hj);rw [pa3] at this;exact this
 obtain ⟨N,hN⟩ : ∃ N,m * n = N := ⟨_,rfl⟩
 have HNN := hid hN;obtain ⟨aa,ca,rfl,-,-,-,-⟩ := pa1.form;have hpl : pa.length = N := by rw [pa2.1,pa3,hN]
 rw [hpl] at HAA ⊢;rw [hN] at HAA hmn;obtain ⟨W0,hW⟩ : ∃ W0,w.alloc (matO m n (.slice aa N ca)) = W0 := ⟨_,rfl⟩
 obtain ⟨b0,sz0⟩ := alo1 w (matO m n (.slice aa N ca));rw [hW] at b0 sz0;have PA : Hid (Cel W0 w.heap.size 24 (matc m n (.slice aa N ca))) := by unfold Hid;rw [← hW];exact Cel.new w _ _
 have x0 := PA.out.at (i := 0) rfl;have x1 := PA.out.at (i := 1) rfl;have x2 := PA.out.at (i := 2) rfl;rw [← hW] at x0 x1 x2;have HK := hid hk;have HE := hid hE;have HR := hid hR;have HRM := hid hrm;have EW := hid hW;have H0 : Hid (zgH w m r γ (matc m n (.slice aa N ca)) m (.slice none 0 0) (.int .i64 0) W0) := ⟨0,rfl,Nat.zero_le _,Nat.zero_le _,rfl,Ivs.nil _ _,PA.out,b0⟩
 clear pa1 pa2 pa3 hpl b0 sz0 hW hk hN hE hR hrm PA;go_enter Tryz.func9,Tryz.ntmps9;go_wp2_with fail;rw [EW.out];clear EW x0 x1 x2
 go_loopg [4,5] m (fun gk s4 s5 wx => zgH w m r γ (matc m n (.slice aa N ca)) gk s4 s5 wx)
 case atStart => exact H0.out
 case round =>
  clear H0;obtain ⟨i,rfl,him,hir,hgk,hiv,ho⟩ := hrel;have IV := hid hiv;have OB := hid ho;have HG := hid hgk;clear hiv ho hgk;obtain ⟨al,cl,rfl,-,-⟩ := IV.out.form;rw [zeA] at IV ⊢;have x0 := OB.out.1.at (i := 0) rfl
  by_cases hlt : i < m
  ·have hlt' : (i : Int) < (m : Int) := by omega
   obtain ⟨W2,hW2⟩ : ∃ W2,wr = W2 := ⟨_,rfl⟩
   rw [hW2] at IV OB x0 ⊢;have HMM : Hid (m - (i + 1) < gk) := by unfold Hid;rw [HG.out];omega
   have H1 : Hid (zQI W2 n (en18 n zs i) n (.int .i64 0) W2) := ⟨0,rfl,Nat.zero_le _,rfl,fun j hj => by omega,Below.refl _ _⟩
   clear HG hW2;go_wp2_with fail
   go_loopg [6] n (fun gk2 s6 wx => zQI W2 n (en18 n zs i) gk2 s6 wx)
   case atStart => exact H1.out
   case round =>
    clear H1 x0;obtain ⟨c,rfl,hcn,hg,hz0,hb⟩ := hrel;have BB := hid hb;have HG := hid hg;have HZ0 := hid hz0;clear hb hg hz0;have OB2 := hid (OB.out.step BB.out);have x1 := OB2.out.1.at (i := 1) rfl;have x2 := OB2.out.1.at (i := 2) rfl;have k1 := zsB (i := i) (c := n) (by omega) hn;have k1' := k1;rw [IntKind.wrap_i64] at k1'
    by_cases hlt2 : c < n
    ·have hlt2' : (c : Int) < (n : Int) := by omega
     have hw2 := zVA (i := c) (by omega);obtain ⟨b1,o1,c1,n1,a1,l1,d1,e1,u0,u1,z1⟩ := HAA.out wr OB2.out.2 i c hlt hlt2;simp only [Value.slice.injEq] at e1;obtain ⟨rfl,-,rfl⟩ := e1;have hp1 : i * n + c < N := by rw [← HNN.out];exact zmE hlt hlt2
     have k3 : IntKind.i64.wrap (((i * n : Nat) : Int) + (c : Int)) = ((i * n + c : Nat) : Int) := by rw [zZA] <;> omega
     obtain ⟨q1,hq1⟩ : ∃ q1,i * n = q1 := ⟨_,rfl⟩
     rw [hq1] at hp1 k1 k1' k3 u0 u1;obtain ⟨t1,ht1⟩ : ∃ t1,q1 + c = t1 := ⟨_,rfl⟩
     rw [ht1] at hp1 k3 u0 u1;have hp1' : (t1 : Int) < (N : Int) := by omega
     have k3' := k3;rw [IntKind.wrap_i64] at k3';obtain ⟨z,hz⟩ : ∃ z,en18 n zs i c = z := ⟨_,rfl⟩
     rw [hz] at z1;have Z1 := hid z1;have HQ1 := hid hq1;have HT1 := hid ht1;clear z1 hq1 ht1
     by_cases h0 : z = 0
     ·have HS : Hid (Calls Tryz.prog 23 #[.agg #[.bool n1,.slice a1 l1 d1]] wr fun e w' => e = .returned (.int .i64 0) ∧ Below wr.heap.size wr w') := by
       have := zPC Z1.out HK.out;rw [h0,cmpI_self] at this;exact this
      have HMM2 : Hid (n - (c + 1) < gk) := by unfold Hid;rw [HG.out];omega
      have HZN : Hid (∀ j,j < c + 1 → en18 n zs i j = 0) := fun j hj => by
       by_cases q : j < c
       ·exact HZ0.out j q
       ·obtain rfl : j = c := by omega
        rw [hz];exact h0
      clear h0 hz Z1 HG HZ0;go_wp2_with fail;refine HS.out.mono ?_;rintro e w3 ⟨rfl,b⟩;have HN1 : Hid (zQI W2 n (en18 n zs i) (n - (c + 1)) (.int .i64 ((c + 1 : Nat) : Int)) w3) := ⟨c + 1,rfl,by omega,rfl,HZN.out,below_step BB.out b⟩
      clear HS HZN BB OB2 b u0 u1 x1 x2;go_wp2_with fail;go_roundg (n - (c + 1))
      case rel => exact HN1.out
      case measure => exact HMM2.out
     ·obtain ⟨hir2,hgc⟩ := fst_row18 HE.out hlt hlt2 HZ0.out (by rw [hz];exact h0)
      have hpos : 0 < z := by have := HE.out.pos i hir2;simp only [id] at this;rw [hgc,hz] at this;exact this
      have HS : Hid (Calls Tryz.prog 23 #[.agg #[.bool n1,.slice a1 l1 d1]] wr fun e w' => e = .returned (.int .i64 1) ∧ Below wr.heap.size wr w') := by
       have := zPC Z1.out HK.out;rw [ziA hpos] at this;exact this
      have HGC := hid hgc;have HIR2 := hid hir2;have HZE := hid hz;clear h0 hz hgc hir2 HG HZ0 hpos;go_wp2_with fail;refine HS.out.mono ?_;rintro e w3 ⟨rfl,b⟩;have OB3 := hid (OB2.out.step b);have IV3 := hid ((IV.out.now BB.out).now b);have Z3 := hid (Z1.out.now b);replace u0 := cnow b u0;replace u1 := cnow b u1;clear HS BB OB2 b x1 x2 Z1 IV OB;have x1 := OB3.out.1.at (i := 1) rfl;have x2 := OB3.out.1.at (i := 2) rfl;have hcn' : ((c : Int) == (n : Int)) = false := by simp;omega
      obtain ⟨V,hV⟩ : ∃ V,w3.alloc (duo (.bool n1) (.slice a1 l1 d1)) = V := ⟨_,rfl⟩
      obtain ⟨bV,szV⟩ := alo1 w3 (duo (.bool n1) (.slice a1 l1 d1));rw [hV] at bV szV;have PP : Hid (Duo V w3.heap.size (.bool n1) (.slice a1 l1 d1)) := by unfold Hid;rw [← hV];exact Duo.new w3 _ _
      have OV := hid (OB3.out.step bV);have IVV := hid (IV3.out.now bV);have ZV := hid (Z3.out.now bV);have p0 := PP.out.c0;have p1 := PP.out.c1;have HS2 : Hid (Calls Tryz.prog 23 #[.agg #[.bool n1,.slice a1 l1 d1]] V fun e w' => e = .returned (.int .i64 1) ∧ Below V.heap.size V w') := by
       have := zPC ZV.out HK.out;rw [ziA (show 0 < z by have := HE.out.pos i HIR2.out;simp only [id] at this;rw [HGC.out,HZE.out] at this;exact this)] at this;exact this
      have EV := hid hV;rw [← hV] at p0 p1;clear bV szV hV OB3 IV3 Z3;go_wp2_with fail;rw [EV.out];refine HS2.out.mono ?_;rintro e w4 ⟨rfl,b⟩;replace PP := hid (PP.out.step b);replace OV := hid (OV.out.step b);replace IVV := hid (IVV.out.now b);replace ZV := hid (ZV.out.now b);obtain ⟨pb,hpb⟩ : ∃ pb,w3.heap.size = pb := ⟨_,rfl⟩
      rw [hpb] at PP;clear b EV HS2 p0 p1 u0 u1 x1 x2 k1 k1' k3 k3' hcn'
      by_cases hi0 : i = 0
      ·have hi0' : ¬ (0 : Int) < (i : Int) := by omega
       obtain ⟨W4,hW4⟩ : ∃ W4,w4 = W4 := ⟨_,rfl⟩
       rw [hW4] at PP OV IVV ZV ⊢;have H4 : Hid (zeF W4 0 i i (.int .i64 0) W4) := ⟨0,rfl,Nat.le_refl _,Nat.zero_le _,rfl,Below.refl _ _⟩
       have HI0 := hid hi0;clear hW4 PP ZV hi0;go_wp2_with fail
       go_loopg [9] i (fun gk3 s9 wx => zeF W4 0 i gk3 s9 wx)
       case atStart => exact H4.out
       case round =>
       clear H4;obtain ⟨t,rfl,-,hti,hg,hb⟩ := hrel;have BB := hid hb;clear hb hg;replace OV := hid (OV.out.step BB.out);replace IVV := hid (IVV.out.now BB.out);have hlt3' : ¬ (t : Int) < (i : Int) := by have := HI0.out;omega
       clear BB;have CV0 := hid (below_step OV.out.2 (Below.refl _ _));obtain ⟨V5,hV⟩ : ∃ V5,wr.alloc (.cells #[.int .i64 (c : Int)] 3) = V5 := ⟨_,rfl⟩
       obtain ⟨bv,szv⟩ := alo1 wr (.cells #[.int .i64 (c : Int)] 3);rw [hV] at bv szv;have CV : Hid (V5.cell? ⟨wr.heap.size,0,none⟩ = some (.int .i64 (c : Int))) := by unfold Hid;rw [← hV];exact (Cel.new wr 3 [.int .i64 (c : Int)]).at (i := 0) rfl
       have OV5 := hid (OV.out.step bv);have IV5 := hid (IVV.out.now bv);have HL : Hid ((zwA γ i).length ≤ 1000000) := by unfold Hid;rw [zeA];omega
       have EV := hid hV;have hwi := zVA (i := i) (by omega);clear bv szv hV OV IVV CV0;go_wp2_with (at_builtin;rw [EV.out];refine zBB V5 rfl (.tmp 112) (.tmp 114) rfl w.heap.size _ (zwA γ i) c rfl IV5.out wr.heap.size rfl CV.out HL.out OV5.out.2.size ?_)
       intro g' cap' w5 hI hgr hbk;rw [zeA] at hI ⊢;have HN1 : Hid (zgH w m r γ (matc m n (.slice (some ⟨b1,o1,none⟩) N ca)) (m - (i + 1)) (.slice (some ⟨g',0,none⟩) (i + 1) cap') (.int .i64 ((i + 1 : Nat) : Int)) w5) := by
        refine ⟨i + 1,rfl,by omega,HIR2.out,rfl,?_,?_,zWC OV5.out.2 OV5.out.2.size IV5.out hgr.out⟩
        ·have e : zwA γ (i + 1) = zwA γ i ++ [c] := by rw [zwC,HGC.out]
         rw [e];exact hI.out
        ·exact zZF OV5.out.1 IV5.out hgr.out
       clear OV5 IV5 EV CV HL hI hgr hbk;go_wp2_with fail;go_roundg (m - (i + 1))
       case rel => exact HN1.out
       case measure => exact HMM.out
      ·have hi0' : (0 : Int) < (i : Int) := by omega
       obtain ⟨gl,cpl,el,kl⟩ := IVV.out.at18 (t := i - 1) (by rw [zeA];omega);rw [zeA] at el;simp only [Value.slice.injEq] at el;obtain ⟨rfl,-,rfl⟩ := el;obtain ⟨gc,hgc⟩ : ∃ gc,(zwA γ i).getD (i - 1) 0 = gc := ⟨_,rfl⟩
       rw [hgc] at kl;have hgl : gc < c := by
        rw [← hgc,← HGC.out];have e : (zwA γ i).getD (i - 1) 0 = γ (i - 1) := by simp [zwA,show i - 1 < i by omega]
        rw [e];exact HE.out.up (i - 1) i (by omega) HIR2.out
       have hgl' : ¬ (c : Int) ≤ (gc : Int) := by omega
       have hgd : decide (c ≤ gc) = false := by simp;omega
       obtain ⟨i1,hi1⟩ : ∃ i1,i - 1 = i1 := ⟨_,rfl⟩
       rw [hi1] at kl;have hw1 : IntKind.i64.wrap ((i : Int) - 1) = (i1 : Int) := by rw [zZA] <;> omega
       have hi1' : (i1 : Int) < (i : Int) := by omega
       obtain ⟨W4,hW4⟩ : ∃ W4,w4 = W4 := ⟨_,rfl⟩
       rw [hW4] at PP OV IVV ZV kl ⊢;have H4 : Hid (zeF W4 0 i i (.int .i64 0) W4) := ⟨0,rfl,Nat.le_refl _,Nat.zero_le _,rfl,Below.refl _ _⟩
       clear hW4 hgc hgl hi0;go_wp2_with fail
       try simp only [hgd]
       clear kl hgl' hgd hw1 hi1' hi1
       go_loopg [9] i (fun gk3 s9 wx => zeF W4 0 i gk3 s9 wx)
       case atStart => exact H4.out
       case round =>
        clear H4;obtain ⟨t,rfl,-,hti,hg,hb⟩ := hrel;have BB := hid hb;have HG := hid hg;clear hb hg;replace PP := hid (PP.out.step BB.out);replace OV := hid (OV.out.step BB.out);replace IVV := hid (IVV.out.now BB.out);replace ZV := hid (ZV.out.now BB.out)
        by_cases hlt3 : t < i
        ·have hlt3' : (t : Int) < (i : Int) := by omega
         have hw3 := zVA (i := t) (by omega);have HMM3 : Hid (i - (t + 1) < gk) := by unfold Hid;rw [HG.out];omega
         have x1 := OV.out.1.at (i := 1) rfl;have x2 := OV.out.1.at (i := 2) rfl;obtain ⟨b3,o3,c3,n3,a3,l3,d3,e3,v0,v1,z3⟩ := HAA.out wr OV.out.2 t c (by omega) hlt2;simp only [Value.slice.injEq] at e3;have e31 := e3.1;simp only [Option.some.injEq,Addr.mk.injEq,and_true] at e31;obtain ⟨rfl,rfl⟩ := e31;have hp3 : t * n + c < N := by rw [← HNN.out];exact zmE (by omega) hlt2
         have k1 := zsB (i := t) (c := n) (by omega) hn;have k3 : IntKind.i64.wrap (((t * n : Nat) : Int) + (c : Int)) = ((t * n + c : Nat) : Int) := by rw [zZA] <;> omega
         obtain ⟨q3,hq3⟩ : ∃ q3,t * n = q3 := ⟨_,rfl⟩
         rw [hq3] at hp3 k1 k3 v0 v1;obtain ⟨t3,ht3⟩ : ∃ t3,q3 + c = t3 := ⟨_,rfl⟩
         rw [ht3] at hp3 k3 v0 v1;have hp3' : (t3 : Int) < (N : Int) := by omega
         have k1' := k1;rw [IntKind.wrap_i64] at k1';have k3' := k3;rw [IntKind.wrap_i64] at k3';obtain ⟨y,hy⟩ : ∃ y,en18 n zs t c = y := ⟨_,rfl⟩
         have hrd := HR.out t i (Nat.zero_le _) hlt3 HIR2.out;simp only [id] at hrd;rw [HGC.out,HZE.out,hy] at hrd;rw [hy] at z3;obtain ⟨VY,hVY⟩ : ∃ VY,wr.alloc (duo (.bool n3) (.slice a3 l3 d3)) = VY := ⟨_,rfl⟩
         obtain ⟨bY,szY⟩ := alo1 wr (duo (.bool n3) (.slice a3 l3 d3));rw [hVY] at bY szY;have PX : Hid (Duo VY wr.heap.size (.bool n3) (.slice a3 l3 d3)) := by unfold Hid;rw [← hVY];exact Duo.new wr _ _
         have ZX := hid (z3.now bY);have PPY := hid (PP.out.step bY);have BY := hid (below_step BB.out bY);have HS3 := hid (zPC ZX.out HK.out);have hs3 : ¬ cmpI y 0 < 0 := by
          unfold cmpI;rw [if_neg (by omega)]
          split <;> omega
         obtain ⟨sy,hsy⟩ : ∃ sy,cmpI y 0 = sy := ⟨_,rfl⟩
         rw [hsy] at HS3 hs3;have HC3 : Hid (∀ w',Below VY.heap.size VY w' → Calls Tryz.prog 24 #[.agg #[.bool n3,.slice a3 l3 d3],.agg #[.bool n1,.slice a1 l1 d1]] w' fun e w'' => e = .returned (.int .i64 (-1)) ∧ Below w'.heap.size w' w'') := fun w' hb => by
          have := rcmp_z (ZX.out.now hb) ((ZV.out.now bY).now hb) HK.out HK.out;rw [zoA hrd.2] at this;exact this
         have p0 := PX.out.c0;have p1 := PX.out.c1;have EY := hid hVY;rw [← hVY] at p0 p1;clear hrd z3 hy bY szY hVY hsy hq3 ht3 HG e3;go_wp2_with fail;rw [EY.out];refine HS3.out.mono ?_;rintro e w6 ⟨rfl,b⟩;have p2 := (PX.out.step b).c0;have p3 := (PX.out.step b).c1;have p4 := (PPY.out.step b).c0;have p5 := (PPY.out.step b).c1;have HC4 := hid (HC3.out _ b);have BY6 := hid (below_step BY.out b);clear p0 p1 EY HS3 HC3 b x1 x2 v0 v1;go_wp2_with fail;refine HC4.out.mono ?_;rintro e w7 ⟨rfl,b⟩;have HN3 : Hid (zeF W4 0 i (i - (t + 1)) (.int .i64 ((t + 1 : Nat) : Int)) w7) := ⟨t + 1,rfl,Nat.zero_le _,by omega,rfl,below_step BY6.out b⟩
         clear HC4 BY6 BY b p2 p3 p4 p5 PX PPY ZX k1 k1' k3 k3' hp3 hp3';go_wp2_with fail;go_roundg (i - (t + 1))
         case rel => exact HN3.out
         case measure => exact HMM3.out
        ·have hlt3' : ¬ (t : Int) < (i : Int) := by omega
         clear PP ZV HG BB;have CV0 := hid (below_step OV.out.2 (Below.refl _ _));obtain ⟨V5,hV⟩ : ∃ V5,wr.alloc (.cells #[.int .i64 (c : Int)] 3) = V5 := ⟨_,rfl⟩
         obtain ⟨bv,szv⟩ := alo1 wr (.cells #[.int .i64 (c : Int)] 3);rw [hV] at bv szv;have CV : Hid (V5.cell? ⟨wr.heap.size,0,none⟩ = some (.int .i64 (c : Int))) := by unfold Hid;rw [← hV];exact (Cel.new wr 3 [.int .i64 (c : Int)]).at (i := 0) rfl
         have OV5 := hid (OV.out.step bv);have IV5 := hid (IVV.out.now bv);have HL : Hid ((zwA γ i).length ≤ 1000000) := by unfold Hid;rw [zeA];omega
         have EV := hid hV;have hwi := zVA (i := i) (by omega);clear bv szv hV OV IVV CV0;go_wp2_with (at_builtin;rw [EV.out];refine zBB V5 rfl (.tmp 112) (.tmp 114) rfl w.heap.size _ (zwA γ i) c rfl IV5.out wr.heap.size rfl CV.out HL.out OV5.out.2.size ?_)
         intro g' cap' w5 hI hgr hbk;rw [zeA] at hI ⊢;have HN1 : Hid (zgH w m r γ (matc m n (.slice (some ⟨b1,o1,none⟩) N ca)) (m - (i + 1)) (.slice (some ⟨g',0,none⟩) (i + 1) cap') (.int .i64 ((i + 1 : Nat) : Int)) w5) := by
          refine ⟨i + 1,rfl,by omega,HIR2.out,rfl,?_,?_,zWC OV5.out.2 OV5.out.2.size IV5.out hgr.out⟩
          ·have e : zwA γ (i + 1) = zwA γ i ++ [c] := by rw [zwC,HGC.out]
           rw [e];exact hI.out
          ·exact zZF OV5.out.1 IV5.out hgr.out
         clear OV5 IV5 EV CV HL hI hgr hbk;go_wp2_with fail;go_roundg (m - (i + 1))
         case rel => exact HN1.out
         case measure => exact HMM.out
    ·have hce : c = n := by omega
     have hlt2' : ¬ (c : Int) < (n : Int) := by omega
     have hir3 : r ≤ i := Nat.le_of_not_lt fun q => by
      have h1 := HE.out.pos i q;have h2 := HE.out.cl i q;have h3 := HZ0.out (γ i) (by omega);simp only [id] at h1;omega
     obtain rfl : i = r := by omega
     have hceq : ((c : Int) == (n : Int)) = true := by simp;omega
     obtain ⟨lo,hlo⟩ : ∃ lo,i * n = lo := ⟨_,rfl⟩
     rw [hlo] at k1 k1';have hloN : lo ≤ N := by rw [← hlo,← HNN.out];exact Nat.mul_le_mul_right n him
     have HLO := hid hlo;have IV2 := hid (IV.out.now BB.out);obtain ⟨W4,hW4⟩ : ∃ W4,wr = W4 := ⟨_,rfl⟩
     rw [hW4] at OB2 IV2 x1 x2 ⊢;have H4 : Hid (zeF W4 lo N (N - lo) (.int .i64 (lo : Int)) W4) := ⟨lo,rfl,Nat.le_refl _,hloN,rfl,Below.refl _ _⟩
     clear HG hW4 hlo IV OB BB HZ0;go_wp2_with fail
     go_loopg [7] (N - lo) (fun gk3 s7 wx => zeF W4 lo N gk3 s7 wx)
     case atStart => exact H4.out
     case round =>
      clear H4 x1 x2 k1 k1';obtain ⟨t,rfl,hlt4,htN,hg,hb⟩ := hrel;have B4 := hid hb;have HG := hid hg;clear hb hg;have OB4 := hid (OB2.out.step B4.out);have x2 := OB4.out.1.at (i := 2) rfl
      by_cases hlt3 : t < N
      ·have hlt3' : (t : Int) < (N : Int) := by omega
       have hw3 := zVA (i := t) (by omega);have HMM3 : Hid (N - (t + 1) < gk) := by unfold Hid;rw [HG.out];omega
       have hn0 : 0 < n := Nat.pos_of_ne_zero fun q => by have h1 := HNN.out;rw [q,Nat.mul_zero] at h1;omega
       have hti : i ≤ t / n := (Nat.le_div_iff_mul_le hn0).2 (by rw [HLO.out];exact hlt4);have htm : t / n < m := (Nat.div_lt_iff_lt_mul hn0).2 (by rw [HNN.out];exact hlt3);obtain ⟨b3,o3,c3,n3,a3,l3,d3,e3,v0,v1,z3⟩ := HAA.out wr OB4.out.2 (t / n) (t % n) htm (Nat.mod_lt _ hn0);simp only [Value.slice.injEq] at e3;obtain ⟨rfl,-,rfl⟩ := e3;have htt : t / n * n + t % n = t := by rw [Nat.mul_comm];exact Nat.div_add_mod t n
       rw [htt] at v0 v1;have hz3 : en18 n zs (t / n) (t % n) = 0 := HE.out.rest (t / n) htm (fun a ha q1 => by simp only [id] at q1;omega) _ (Nat.mod_lt _ hn0);rw [hz3] at z3;have HS3 : Hid (Calls Tryz.prog 23 #[.agg #[.bool n3,.slice a3 l3 d3]] wr fun e w' => e = .returned (.int .i64 0) ∧ Below wr.heap.size wr w') := by
        have := zPC z3 HK.out;rw [cmpI_self] at this;exact this
       clear z3 hz3 htt htm hti HG;go_wp2_with fail;refine HS3.out.mono ?_;rintro e w6 ⟨rfl,b⟩;have HN3 : Hid (zeF W4 lo N (N - (t + 1)) (.int .i64 ((t + 1 : Nat) : Int)) w6) := ⟨t + 1,rfl,by omega,by omega,rfl,below_step B4.out b⟩
       clear HS3 B4 OB4 b x2 v0 v1;go_wp2_with fail;go_roundg (N - (t + 1))
       case rel => exact HN3.out
       case measure => exact HMM3.out
      ·have hlt3' : ¬ (t : Int) < (N : Int) := by omega
       have FIN : Hid (zLH w i γ (.returned (.tuple #[.slice al i cl,.bool true])) wr) := ⟨_,rfl,IV2.out.now B4.out,OB4.out.2⟩
       clear HG B4 OB4 IV2;go_wp2;go_ret2;exact FIN.out
  ·obtain rfl : i = m := by omega
   obtain rfl : i = r := by have := HRM.out;omega
   have hlt' : ¬ (i : Int) < (i : Int) := by omega
   have FIN : Hid (zLH w i γ (.returned (.tuple #[.slice al i cl,.bool true])) wr) := ⟨_,rfl,IV.out,OB.out.2⟩
   clear HG IV OB;go_wp2;go_ret2;exact FIN.out
theorem slice_end18 (w : World) (b off n c : Nat) : (Instr.slice 22 (.slice (some ⟨b,off,none⟩) n c) (some (.int .i64 (c : Int))) (some (.int .i64 (c : Int))) none).run Tryz.prog w = .ok (.slice (some ⟨b,off,none⟩) 0 0) w := by
 have i1 : (0 : Int) ≤ (c : Int) := by omega
 go_simp
theorem cut_any18 {B : Nat} {w : World} {a : Option Addr} {n cap x y : Nat} {ps : List (Value × Value)} (h : Prs B w (.slice a n cap) ps) (hxy : x ≤ y) (hy : y ≤ ps.length) :
  ∃ a' cap',(∀ wx,(Instr.slice 22 (.slice a n cap) (some (.int .i64 (x : Int))) (some (.int .i64 (y : Int))) none).run Tryz.prog wx = .ok (.slice a' (y - x) cap') wx) ∧ Prs B w (.slice a' (y - x) cap') ((ps.drop x).take (y - x)) := by
 have h0 := h;obtain ⟨a',c',h1,h2,h3,-,h4⟩ := h;simp only [Value.slice.injEq] at h1;obtain ⟨rfl,rfl,rfl⟩ := h1;rcases h4 with rfl | ⟨b,off,rfl,h5',h6,h7⟩
 ·obtain rfl : y = 0 := by simpa using hy
  obtain rfl : x = 0 := by omega
  refine ⟨a,cap,fun wx => ?_,?_⟩
  ·simpa using zME wx a cap
  ·simpa using h0
 ·by_cases q : x < cap
  ·refine ⟨some ⟨b,off + x * 2,none⟩,cap - x,fun wx => ?_,h0.piece (by omega)⟩
   have := zGF wx b off ps.length cap x y hxy (by omega) q;rw [Nat.mul_comm 2] at this;exact this
  ·obtain rfl : x = cap := by omega
   obtain rfl : y = x := by omega
   refine ⟨some ⟨b,off,none⟩,0,fun wx => ?_,?_⟩
   ·rw [Nat.sub_self]
    exact slice_end18 wx b off ps.length y
   ·rw [Nat.sub_self,List.take_zero]
    exact ⟨_,0,rfl,Nat.le_refl _,Nat.zero_le _,(fun q => by cases q),.inl rfl⟩


theorem row_zl {w : World} {r c k : Nat} {v : Value} {ps : List (Value × Value)} {xs : List Int} {i : Nat} (h : Prs 0 w v ((ps.drop (i * c)).take c)) (hz : Zis w ps xs k) (hi : i < r) : Zl w v ((rowsL r c xs).getD i []) k := zcG h ((ziss_rows (r := r) (m := c) hz).2 i _ (zDG hi))
theorem zoG {r c i : Nat} {xs : List Int} (hl : xs.length = r * c) (hi : i < r) : ((rowsL r c xs).getD i []).length = c := by
 have e : (rowsL r c xs).getD i [] = (xs.drop (i * c)).take c := by simp [rowsL,hi]
 rw [e];have h5 : (i + 1) * c ≤ r * c := Nat.mul_le_mul_right c hi;have h6 : (i + 1) * c = i * c + c := by rw [Nat.add_mul,Nat.one_mul]
 simp
 omega





open Go.RowKit Go.Shelf
attribute [local go_sem] Oper.semAt_some
def en (c : Nat) (zs : List Int) : Nat → Nat → Int := fun i j => zs.getD (i * c + j) 0
end Go.Proofs.YtmnecbniappnaaaGreat
namespace Go.Proofs.YtmnecbniappnaaaGreat
open Go.RowKit

open Go.RowKit Go.Shelf
attribute [local go_sem] Oper.semAt_some
end Go.Proofs.YtmnecbniappnaaaGreat
namespace Go.Proofs.YtmnecbniappnaaaGreat
open Go.RowKit
theorem zNE {r c i j : Nat} {xs : List Int} (hi : i < r) (hj : j < c) : ((rowsL r c xs).getD i []).getD j 0 = xs.getD (i * c + j) 0 := by
 have e : (rowsL r c xs).getD i [] = (xs.drop (i * c)).take c := by simp [rowsL,hi]
 rw [e,List.getD_eq_getElem?_getD,List.getD_eq_getElem?_getD,List.getElem?_take,if_pos hj,List.getElem?_drop]



instance (r c : Int) (l : Nat) : Decidable (Snd r c l) := by unfold Snd;infer_instance
end Go.Proofs.YtmnecbniappnaaaGreat
