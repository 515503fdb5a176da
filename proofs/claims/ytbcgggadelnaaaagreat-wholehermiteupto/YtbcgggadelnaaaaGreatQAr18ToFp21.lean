/-
 QAr18ToFp21: Ar18, Ix18, Pv18, Fp18, Ai21, Trace9, TurnP9, Fp21, joined.
-/
import Derived.Test.YtbcgggadelnaaaaGreatQIp18ToRe18
import Derived.Test.YtbcgggadelnaaaaGreatQTailLToTo18
import Derived.Test.YtbcgggadelnaaaaGreatQZOnesToZCmp
import Derived.Test.YtbcgggadelnaaaaGreatQTl19ToHs18
import Derived.Test.YtbcgggadelnaaaaGreatQDu12ToRl17
import Derived.Test.YtbcgggadelnaaaaGreatQMat11ToHw18
import Derived.Test.YtbcgggadelnaaaaGreatQChkN9ToLn11
import Derived.Test.YtbcgggadelnaaaaGreatQLr21ToOr21
import Derived.Test.YtbcgggadelnaaaaGreatQUnit9ToOpenM9
import Derived.Test.YtbcgggadelnaaaaGreatQLm6ToWk9
import Derived.Test.YtbcgggadelnaaaaGreatQTurn9

set_option maxRecDepth 100000
set_option maxHeartbeats 6400000
set_option linter.unusedVariables false
set_option linter.unusedSimpArgs false
namespace Go.Proofs.YtbcgggadelnaaaaGreat
open Go.RowKit


theorem Sh17.mono18 {B B' m n k : Nat} {w : World} {lv : Value} {gs : Nat → Nat} {L : Nat → Nat → Int} (h : Sh17 B w lv m n gs L k) (hB : B' ≤ B) : Sh17 B' w lv m n gs L k := by
 obtain ⟨h1,h4,h5⟩ := h;refine ⟨?_,h4,fun i hi => ⟨Nat.le_trans hB (h5 i hi).1,(h5 i hi).2⟩⟩;rcases h1 with h1 | ⟨h0,Lb,cap,r,e,e0,e1,e2⟩
 ·exact .inl h1
 ·exact .inr ⟨h0,Lb,cap,r,e,e0,Nat.le_trans hB e1,e2⟩
attribute [local go_sem] zQC
theorem against21 {w : World} {a : Option Addr} {l c : Nat} : Calls Tryz.prog 29 #[.slice a l c] w fun e w' => ∃ Ba Bm,e = .returned (.agg #[hf1 Ba,hf2 Ba,hg3 Bm,hg4 Bm]) ∧ w.heap.size ≤ Ba ∧ w.heap.size ≤ Bm ∧ Cel w' Ba 61 [.slice a l c] ∧ Cel w' Bm 70 (hd21 Ba) ∧ Below w.heap.size w w' := by
 obtain ⟨W0,hW⟩ : ∃ W0,w.alloc (.cells #[.nilFunc,.nilFunc,.nilFunc,.nilFunc] 70) = W0 := ⟨_,rfl⟩
 obtain ⟨b0,sz0⟩ := alo1 w (.cells #[.nilFunc,.nilFunc,.nilFunc,.nilFunc] 70);rw [hW] at b0 sz0;have dR : Cel W0 w.heap.size 70 [.nilFunc,.nilFunc,.nilFunc,.nilFunc] := by rw [← hW];exact Cel.new w _ _
 have HAL := hid (zsE (w := W0) (a := a) (l := l) (c := c));have DR := hid dR;have B0 := hid b0;have SZ0 := hid sz0;have EW := hid hW;clear dR b0 sz0 hW;go_enter Tryz.func29,Tryz.ntmps29;go_wp2_with fail;rw [EW.out];refine HAL.out.mono ?_;rintro e w1 ⟨rfl,dA,b1⟩;obtain ⟨Ba,hBa⟩ : ∃ Ba,W0.heap.size = Ba := ⟨_,rfl⟩
 rw [hBa] at dA;rw [hBa];obtain ⟨V2,hV2⟩ : ∃ V2,w1.alloc (.cells #[hf1 Ba,hf2 Ba,hf3 Ba,hf4 Ba] 70) = V2 := ⟨_,rfl⟩
 obtain ⟨b2,sz2⟩ := alo1 w1 (.cells #[hf1 Ba,hf2 Ba,hf3 Ba,hf4 Ba] 70);rw [hV2] at b2 sz2;have dH : Cel V2 w1.heap.size 70 [hf1 Ba,hf2 Ba,hf3 Ba,hf4 Ba] := by rw [← hV2];exact Cel.new w1 _ _
 have dR2 := DR.out.step (below_step b1 b2);have h0 := dH.at (i := 0) rfl;have h1 := dH.at (i := 1) rfl;have r0 := dR2.at (i := 0) rfl;have r1 := dR2.at (i := 1) rfl;have r2 := dR2.at (i := 2) rfl;have r3 := dR2.at (i := 3) rfl;have f0 := dR2.fz 0;have f1 := dR2.fz 1;have f2 := dR2.fz 2;have f3 := dR2.fz 3;have hs1 := b1.size;have hs0 := SZ0.out;obtain ⟨Bm,hBm⟩ : ∃ Bm,w1.heap.size = Bm := ⟨_,rfl⟩
 rw [hBm] at dH h0 h1;have HBM := hid hBm;have FF : Hid ((∃ Ba' Bm',(Ending.returned (.agg #[hf1 Ba,hf2 Ba,hg3 Bm,hg4 Bm])) = .returned (.agg #[hf1 Ba',hf2 Ba',hg3 Bm',hg4 Bm']) ∧ w.heap.size ≤ Ba' ∧ w.heap.size ≤ Bm' ∧ Cel ((((V2.setCell ⟨w.heap.size,0,none⟩ (hf1 Ba)).setCell ⟨w.heap.size,1,none⟩ (hf2 Ba)).setCell ⟨w.heap.size,2,none⟩ (hg3 Bm)).setCell ⟨w.heap.size,3,none⟩ (hg4 Bm)) Ba' 61 [.slice a l c] ∧ Cel ((((V2.setCell ⟨w.heap.size,0,none⟩ (hf1 Ba)).setCell ⟨w.heap.size,1,none⟩ (hf2 Ba)).setCell ⟨w.heap.size,2,none⟩ (hg3 Bm)).setCell ⟨w.heap.size,3,none⟩ (hg4 Bm)) Bm' 70 (hd21 Ba') ∧ Below w.heap.size w ((((V2.setCell ⟨w.heap.size,0,none⟩ (hf1 Ba)).setCell ⟨w.heap.size,1,none⟩ (hf2 Ba)).setCell ⟨w.heap.size,2,none⟩ (hg3 Bm)).setCell ⟨w.heap.size,3,none⟩ (hg4 Bm)))
   ∧ Cel ((((V2.setCell ⟨w.heap.size,0,none⟩ (hf1 Ba)).setCell ⟨w.heap.size,1,none⟩ (hf2 Ba)).setCell ⟨w.heap.size,2,none⟩ (hg3 Bm)).setCell ⟨w.heap.size,3,none⟩ (hg4 Bm)) w.heap.size 70 [hf1 Ba,hf2 Ba,hg3 Bm,hg4 Bm]) := by
  have c4 := (((dR2.set 0 (hf1 Ba)).set 1 (hf2 Ba)).set 2 (hg3 Bm)).set 3 (hg4 Bm);refine ⟨⟨Ba,Bm,rfl,by omega,by omega,?_,?_,bset (bset (bset (bset (below_step B0.out (below_step b1 b2)) (Nat.le_refl _)) (Nat.le_refl _)) (Nat.le_refl _)) (Nat.le_refl _)⟩,c4⟩
  ·have ty := (((Ty.set (i := 0) (u := hf1 Ba) dR2).trans (Ty.set (i := 1) (u := hf2 Ba) (dR2.set 0 (hf1 Ba)))).trans (Ty.set (i := 2) (u := hg3 Bm) ((dR2.set 0 (hf1 Ba)).set 1 (hf2 Ba)))).trans (Ty.set (i := 3) (u := hg4 Bm) (((dR2.set 0 (hf1 Ba)).set 1 (hf2 Ba)).set 2 (hg3 Bm)))
   exact (dA.step b2).ty13 ty (by decide)
  ·exact (((dH.ne (by omega)).ne (by omega)).ne (by omega)).ne (by omega)
 have EV2 := hid hV2;rw [← hV2] at h0 h1 r0 r1 r2 r3 f0 f1 f2 f3;clear HAL dA b1 b2 sz2 dH dR2 DR B0 SZ0 EW hV2 hs1 hs0 hBm hBa;go_wp2_with fail;rw [HBM.out,EV2.out];refine bodyPost_ret (zoG Tryz.results29 FF.out.2 _ (by rfl)) rfl ?_;exact FF.out.1
theorem zbD {w : World} {n : Nat} (hn : n ≤ 64) : Calls Tryz.prog 27 #[.int .i64 (n : Int)] w fun e w' => ∃ a c gs,e = .returned (.slice a n c) ∧ Sh17 w.heap.size w' (.slice a n c) n n gs dlz 1 ∧ Below w.heap.size w w' := by
 have HU := hid (unit_any (w := w) hn);go_enter Tryz.func27,Tryz.ntmps27;go_wp2_with fail;refine HU.out.mono ?_;rintro e w1 ⟨v,rfl,hm,b1⟩;obtain ⟨aa,ca,rfl,-,-⟩ := hm.mx.form;dsimp only [matv] at hm ⊢;obtain ⟨ln,hln⟩ : ∃ ln,n * n = ln := ⟨_,rfl⟩
 rw [hln] at hm ⊢;obtain ⟨V2,hV2⟩ : ∃ V2,w1.alloc (.cells #[.int .i64 (n : Int),.int .i64 (n : Int),.slice aa ln ca] 24) = V2 := ⟨_,rfl⟩
 obtain ⟨b2,sz2⟩ := alo1 w1 (.cells #[.int .i64 (n : Int),.int .i64 (n : Int),.slice aa ln ca] 24);rw [hV2] at b2 sz2;have d2 : Cel V2 w1.heap.size 24 [.int .i64 (n : Int),.int .i64 (n : Int),.slice aa ln ca] := by rw [← hV2];exact Cel.new w1 _ _
 have x0 := d2.at (i := 0) rfl;have x1 := d2.at (i := 1) rfl;have x2 := d2.at (i := 2) rfl;have HLI := hid (znD (hm.now b2).mx);have BB := hid (below_step b1 b2);have EV := hid hV2;rw [← hV2] at x0 x1 x2;have HSZ : Hid (w.heap.size ≤ V2.heap.size) := by unfold Hid;have := b1.size;omega
 clear HU hm b1 b2 sz2 hV2 d2 hln;go_wp2_with fail;rw [EV.out];refine HLI.out.mono ?_;rintro e w2 ⟨lv,gs,rfl,q1,q2⟩;have hml : (rowsL n n (zIB n n)).length = n := zFB;rw [hml] at q1;have q3 := q1.congr (L' := dlz) fun i j hi hj => by
  rw [zhF (zdA n n) hi hj];unfold en18;rw [zYG hi hj];unfold dlz
  by_cases q : i = j
  ·rw [if_pos q,if_pos q.symm]
  ·rw [if_neg q,if_neg (Ne.symm q)]
 have q4 := q3.mono18 (B' := w.heap.size) HSZ.out;obtain ⟨lla,llc,rfl⟩ : ∃ la lc,lv = .slice la n lc := by
  rcases q1.1 with ⟨e,h⟩ | ⟨h0,Lb,cap,r,e,_⟩
  ·exact ⟨none,0,by rw [e];exact h⟩
  ·exact ⟨_,cap,e⟩
 have FF := hid (show ∃ a c gs,(Ending.returned (.slice lla n llc)) = .returned (.slice a n c) ∧ Sh17 w.heap.size w2 (.slice a n c) n n gs dlz 1 ∧ Below w.heap.size w w2 from ⟨_,_,gs,rfl,q4,below_step BB.out q2⟩);clear HLI q1 q2 q3 q4 BB x0 x1 x2 hml;go_wp2;go_ret;exact FF.out
end Go.Proofs.YtbcgggadelnaaaaGreat
namespace Go.Proofs.YtbcgggadelnaaaaGreat
open Go.RowKit
end Go.Proofs.YtbcgggadelnaaaaGreat
namespace Go.Proofs.YtbcgggadelnaaaaGreat
theorem turn_at {r c i j : Nat} {zs : List Int} (hi : i < r) (hj : j < c) : (zJB r c zs).getD (j * r + i) 0 = zs.getD (i * c + j) 0 := by
 unfold zJB;rw [zvD hi zpE (by simp [colsL];exact hj)];have e1 : (colsL r c zs 0).getD j [] = colL c zs 0 r j := by simp [colsL,hj]
 rw [e1];simp [colL,hi]
open Go.RowKit
def zFD (n : Nat) (zs : List Int) : Nat → Nat → Int := fun i c => if c < n then en18 n zs i c else dlz i (c - n)
theorem zaE {n : Nat} {zs : List Int} {i c : Nat} (h : c < n) : zFD n zs i c = en18 n zs i c := if_pos h
theorem zXC {n : Nat} {zs : List Int} {i c : Nat} : zFD n zs i (n + c) = dlz i c := by
 unfold zFD;rw [if_neg (by omega),Nat.add_sub_cancel_left]
theorem turn_zG21 (m : Nat) (V : Nat → Nat → Int) : zJB m m (zG18 m m V) = zG18 m m fun i k => V k i := by
 apply List.ext_getElem?
 intro t
 by_cases q : t < m * m
 ·have hm : 0 < m := Nat.pos_of_ne_zero fun e => by subst e;simp at q
  have h1 : t / m < m := Nat.div_lt_of_lt_mul q;have h2 : t % m < m := Nat.mod_lt _ hm;have e : t / m * m + t % m = t := by rw [Nat.mul_comm];exact Nat.div_add_mod t m
  have a1 := turn_at (zs := zG18 m m V) (r := m) (c := m) h2 h1;have a2 := zuB (F := V) h2 h1;have a3 := zuB (F := fun i k => V k i) h1 h2;unfold en18 at a2 a3;rw [e] at a1 a3;have l1 : (zJB m m (zG18 m m V)).length = m * m := zgB;have l2 : (zG18 m m fun i k => V k i).length = m * m := zsA m m _;rw [List.getElem?_eq_getElem (by omega),List.getElem?_eq_getElem (by omega)]
  congr 1
  have g1 : (zJB m m (zG18 m m V))[t]'(by omega) = (zJB m m (zG18 m m V)).getD t 0 := by simp [List.getD_eq_getElem?_getD,show t < (zJB m m (zG18 m m V)).length by omega]
  have g2 : (zG18 m m fun i k => V k i)[t]'(by omega) = (zG18 m m fun i k => V k i).getD t 0 := by simp [List.getD_eq_getElem?_getD,show t < (zG18 m m fun i k => V k i).length by omega]
  rw [g1,g2,a1,a3];exact a2
 ·rw [List.getElem?_eq_none (by rw [zgB];omega),List.getElem?_eq_none (by rw [zsA];omega)]
def zKI (w : World) (m n : Nat) (A : Nat → Nat → Int) (t : Nat) (e : Ending) (w' : World) : Prop :=
 ∃ aH lH cH aU lU cU aW lW cW r γ X V,e = .returned (.tuple #[.agg #[.int .i64 (m : Int),.int .i64 (n : Int),.slice aH lH cH,.int .i64 (m : Int),.int .i64 (m : Int),.slice aU lU cU,.int .i64 (m : Int),.int .i64 (m : Int),.slice aW lW cW],.int .i64 0])
  ∧ Mc w' (.agg #[.int .i64 (m : Int),.int .i64 (n : Int),.slice aH lH cH]) m n (zG18 m n X) t ∧ Mc w' (.agg #[.int .i64 (m : Int),.int .i64 (m : Int),.slice aU lU cU]) m m (zG18 m m fun i k => X i (n + k)) t ∧ Mc w' (.agg #[.int .i64 (m : Int),.int .i64 (m : Int),.slice aW lW cW]) m m (zG18 m m fun i k => V k i) (64 * t + 65)
  ∧ Hb18 m (n + m) m r id γ X A ∧ Iv21 m n X V ∧ Below w.heap.size w w'
def zQI (n Bl Bh Bm b0 b1 b2 : Nat) (v0 v1 v2 : Value) (S : Nat → Prop) : zKA := ⟨true,n,Bl,Bh,Bm,fun t => if t = 0 then b0 else if t = 1 then b1 else b2,fun t => if t = 0 then v0 else if t = 1 then v1 else v2,S⟩
def sh21 {α : Type} (x y z : α) : Nat → α := fun t => if t = 0 then x else if t = 1 then y else z
theorem three21 {t : Nat} (h : t < 3) : t = 0 ∨ t = 1 ∨ t = 2 := by omega
theorem Sh17.in21 {B m n k : Nat} {w : World} {lv : Value} {gs : Nat → Nat} {L : Nat → Nat → Int} (h : Sh17 B w lv m n gs L k) : (∀ i,i < m → B ≤ gs i ∧ gs i < w.heap.size) ∧ ∀ b l c,lv = .slice (some ⟨b,0,none⟩) l c → B ≤ b ∧ b < w.heap.size := by
 obtain ⟨h1,h2,h3⟩ := h;refine ⟨fun i hi => ⟨(h3 i hi).1,(h3 i hi).2.blk⟩,fun b l c e => ?_⟩;rcases h1 with ⟨_,h1⟩ | ⟨_,Lb,cap,r,h1,_,h4,h5⟩
 ·rw [e] at h1;cases h1
 ·rw [e] at h1
  simp only [Value.slice.injEq,Option.some.injEq,Addr.mk.injEq,and_true,true_and] at h1;obtain ⟨rfl,-⟩ := h1;exact ⟨h4,h5.blk⟩
theorem start21 {B B1 B2 m n kw bs Bl Bh Bm b0 b1 b2 : Nat} {V : World} {v0 v1 v2 : Value} {g0 g1 g2 : Nat → Nat} {zs : List Int}
  (hs : Cel V bs 75 [.slice (some ⟨Bl,0,none⟩) 2 2,.slice (some ⟨Bh,0,none⟩) 3 3,.slice none 0 0]) (hl : Cel V Bl 61 [v0,v1])
  (hh : Cel V Bh 70 [hf1 b0,hf2 b0,hf3 b0,hf4 b0,hf1 b1,hf2 b1,hf3 b1,hf4 b1,hf1 b2,hf2 b2,hg3 Bm,hg4 Bm])
  (ha0 : Cel V b0 61 [v0]) (ha1 : Cel V b1 61 [v1]) (ha2 : Cel V b2 61 [v2]) (hm : Cel V Bm 70 (hd21 b2))
  {W1 W2 W3 : World} (s0 : Sh17 B W1 v0 m n g0 (en18 n zs) kw) (s1 : Sh17 B1 W2 v1 m m g1 dlz 1) (s2 : Sh17 B2 W3 v2 m m g2 dlz 1) (h01 : W1.heap.size ≤ B1) (h12 : W2.heap.size ≤ B2) (hB : B ≤ B1) (hB2 : B1 ≤ B2) (e1 : Below W1.heap.size W1 V) (e2 : Below W2.heap.size W2 V) (e3 : Below W3.heap.size W3 V)
  (hn : n ≤ 64) (hk1 : 1 ≤ kw) (hK : kw ≤ 10000000000) :
  zOA (zQI n Bl Bh Bm b0 b1 b2 v0 v1 v2 fun b => ∃ t i,t < 3 ∧ i < m ∧ b = sh21 g0 g1 g2 t i) B V bs (.slice none 0 0) m (n + m) 0 id id (zFD n zs) kw := by
 have r0 := s0.in21;have r1 := s1.in21;have r2 := s2.in21;refine ⟨sh21 g0 g1 g2,sh21 (en18 n zs) dlz dlz,sh21 kw kw (64 * kw + 65),⟨hs,hl,hh,fun t ht => ?_,fun _ => hm,.inl ⟨rfl,rfl⟩,fun t ht => ?_,fun t u i j ht hu htu hi hj => ?_,fun b => Iff.rfl,fun t u b l c l' c' ht hu el eu => ?_⟩,⟨hn,hk1,fun t ht h2 => ?_,fun i c hi hc => zaE hc,(fun h => by cases h),fun _ => ⟨rfl,rfl,hK⟩,fun _ i c hi hc => zXC,fun _ => Iv21.unit (fun i k hi hk => zXC) fun i k hi hk => rfl⟩⟩
 ·rcases three21 ht with rfl | rfl | rfl
  ·exact ha0
  ·exact ha1
  ·exact ha2
 ·rcases three21 ht with rfl | rfl | rfl
  ·exact s0.now e1
  ·exact (s1.now e2).mono18 hB |>.more18 hk1
  ·exact (s2.now e3).mono18 (Nat.le_trans hB hB2) |>.more18 (by show 1 ≤ 64 * kw + 65;omega)
 ·have q1 := r1.1
  have q0 := r0.1;have q2 := r2.1;rcases three21 ht with rfl | rfl | rfl <;> rcases three21 hu with rfl | rfl | rfl
  ·exact absurd rfl htu
  ·show g0 i ≠ g1 j;have := (q0 i hi).2;have := (q1 j hj).1;omega
  ·show g0 i ≠ g2 j;have := (q0 i hi).2;have := (q2 j hj).1;omega
  ·show g1 i ≠ g0 j;have := (q0 j hj).2;have := (q1 i hi).1;omega
  ·exact absurd rfl htu
  ·show g1 i ≠ g2 j;have := (q1 i hi).2;have := (q2 j hj).1;omega
  ·show g2 i ≠ g0 j;have := (q0 j hj).2;have := (q2 i hi).1;omega
  ·show g2 i ≠ g1 j;have := (q1 j hj).2;have := (q2 i hi).1;omega
  ·exact absurd rfl htu
 ·rcases three21 ht with rfl | rfl | rfl <;> rcases three21 hu with rfl | rfl | rfl
  ·rfl
  ·have := (r0.2 b _ _ el).2;have := (r1.2 b _ _ eu).1;omega
  ·have := (r0.2 b _ _ el).2;have := (r2.2 b _ _ eu).1;omega
  ·have := (r0.2 b _ _ eu).2;have := (r1.2 b _ _ el).1;omega
  ·rfl
  ·have := (r1.2 b _ _ el).2;have := (r2.2 b _ _ eu).1;omega
  ·have := (r0.2 b _ _ eu).2;have := (r2.2 b _ _ el).1;omega
  ·have := (r1.2 b _ _ eu).2;have := (r2.2 b _ _ el).1;omega
  ·rfl
 ·rcases three21 ht with rfl | rfl | rfl
  ·rfl
  ·rfl
  ·exact absurd rfl h2
theorem end21 {B bs m n r kw t T Bl Bh Bm b0 b1 b2 : Nat} {w : World} {v0 v1 v2 sv : Value} {S : Nat → Prop} {γ : Nat → Nat} {X : Nat → Nat → Int} {zs : List Int} (h : zOA (zQI n Bl Bh Bm b0 b1 b2 v0 v1 v2 S) B w bs sv m (n + m) r id γ X kw) (hb : Hb18 m (n + m) m r id γ X (zFD n zs)) (hTb : Tb18 m (n + m) (zFD n zs) T) (hkt : ((T : Nat) : Int) < pw t) (hm : m ≤ 64) :
  ∃ g0 g1 g2 V,Sh17 B w v0 m n g0 X kw ∧ Sh17 B w v1 m m g1 (fun i k => X i (n + k)) kw ∧ Sh17 B w v2 m m g2 V (64 * kw + 65) ∧ Iv21 m n X V ∧ (∀ i c,i < m → c < n + m → ((X i c).natAbs : Int) < pw t) ∧ ∀ i c,i < m → c < m → ((V i c).natAbs : Int) < pw (64 * t + 65) := by
 obtain ⟨gs,Z,kz,h1,h2⟩ := h;have n2 := h2.n2 rfl;have hX : ∀ i c,i < m → c < n + m → ((X i c).natAbs : Int) < pw t := fun i c hi hc => by
  have := hb.size hTb (Nat.le_refl _) i c hi hc;omega
 have ht1 : 1 ≤ t := by
  rcases Nat.eq_zero_or_pos t with q | q
  ·subst q
   have : pw 0 = 1 := rfl;have := hTb.one;omega
  ·exact q
 have k0 := h2.k0 0 (show 0 < 3 by omega) (by decide);have k1 := h2.k0 1 (show 1 < 3 by omega) (by decide);have q0 := h1.sh 0 (show 0 < 3 by omega);have q1 := h1.sh 1 (show 1 < 3 by omega);have q2 := h1.sh 2 (show 2 < 3 by omega);rw [k0] at q0;rw [k1] at q1;rw [n2.2.1] at q2;exact ⟨gs 0,gs 1,gs 2,Z 2,q0.congr fun i j hi hj => (h2.x0 i j hi hj).symm,q1.congr fun i j hi hj => (h2.x1 rfl i j hi hj).symm,q2,h2.iv rfl,hX,fun i c hi hc => zSD (h2.iv rfl) hm ht1 (fun a k ha hk => hX a (n + k) ha (by omega)) i c hi hc⟩
end Go.Proofs.YtbcgggadelnaaaaGreat
