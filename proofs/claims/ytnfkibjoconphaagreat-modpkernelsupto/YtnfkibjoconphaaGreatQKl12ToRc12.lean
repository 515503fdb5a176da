/-
 QKl12ToRc12: Kl12, Dz12, Du12, Rc12, joined.
-/
import Derived.Test.YtnfkibjoconphaaGreatQRr12
import Derived.Test.YtnfkibjoconphaaGreatQChk9ToFn12
import Derived.Test.YtnfkibjoconphaaGreatQTy9ToMt12

set_option maxRecDepth 100000
set_option maxHeartbeats 6400000
set_option linter.unusedVariables false
set_option linter.unusedSimpArgs false
namespace Go.Proofs.YtnfkibjoconphaaGreat
open Go.RowKit
theorem modpKernels_un {w : World} {r c : Int} {a : Option Addr} {l cap p : Nat} (hl : l ≤ 1048576) (hs : ¬ Snd r c l) (hc : znB w r c a l cap false) :
  Calls Tryz.prog 3 #[mrV r c a l cap,.int .u64 (p : Int)] w fun e w' => e = .returned (.bool true) ∧ Below w.heap.size w w' := by
 have HSA : Hid (∀ w',Calls Tryz.prog 6 #[mrV r c a l cap] w' fun e w'' => e = .returned (.bool false) ∧ Below w'.heap.size w' w'') := fun w' => zyD (s := false) hl ⟨(fun h => by cases h),fun h => absurd h hs⟩
 have HRF : Hid (∀ w',Below w.heap.size w w' → Calls Tryz.prog 8 #[mrV r c a l cap,.int .u64 (p : Int)] w' fun e w'' => e = .returned (.bool true) ∧ Below w'.heap.size w' w'') := fun w' h => refuses_un hl hs (hc.now h)
 obtain ⟨W0,hW⟩ : ∃ W0,w.alloc (mrO r c a l cap) = W0 := ⟨_,rfl⟩
 obtain ⟨b0,sz0⟩ := zJA w (mrO r c a l cap);rw [hW] at b0 sz0;have PA : Hid (Cel W0 w.heap.size 24 (mrC r c a l cap)) := by unfold Hid;rw [← hW];exact Cel.new w _ _
 have HW := hid (zCG W0);have G0 := hid b0;have EW := hid hW;clear b0 sz0 hW hs hc;go_enter Tryz.func3,Tryz.ntmps3;go_wp2_with fail;rw [EW.out];refine HW.out.mono ?_;rintro e w1 ⟨rfl,b1⟩;replace PA := hid (PA.out.step b1);have G := hid (below_step G0.out b1);clear HW EW b1 G0;have x0 := PA.out.at (i := 0) rfl;have x1 := PA.out.at (i := 1) rfl;have x2 := PA.out.at (i := 2) rfl;go_wp2_with fail;refine (HSA.out w1).mono ?_;rintro e w2 ⟨rfl,b⟩;replace PA := hid (PA.out.step b);replace G := hid (below_step G.out b);clear b x0 x1 x2 HSA;have x0 := PA.out.at (i := 0) rfl;have x1 := PA.out.at (i := 1) rfl;have x2 := PA.out.at (i := 2) rfl;go_wp2_with fail;refine (HRF.out _ G.out).mono ?_;rintro e w3 ⟨rfl,b⟩;replace G := hid (below_step G.out b);clear b x0 x1 x2 HRF PA;go_wp2;go_ret;exact ⟨rfl,G.out⟩
theorem modpKernels_no {w : World} {r c : Int} {a : Option Addr} {l cap p : Nat} (hl : l ≤ 1048576) (hs : Snd r c l) (hg : gdB p = false) (hc : znB w r c a l cap true) :
  Calls Tryz.prog 3 #[mrV r c a l cap,.int .u64 (p : Int)] w fun e w' => e = .returned (.bool true) ∧ Below w.heap.size w w' := by
 have HSA : Hid (∀ w',Calls Tryz.prog 6 #[mrV r c a l cap] w' fun e w'' => e = .returned (.bool true) ∧ Below w'.heap.size w' w'') := fun w' => zyD (s := true) hl ⟨fun _ => hs,fun _ => rfl⟩
 have HLP : Hid (∀ w',Calls Tryz.prog 7 #[.int .u64 (p : Int)] w' fun e w'' => e = .returned (.bool false) ∧ w'' = w') := fun w' => by have := zFE (w := w') (p := p);rw [hg] at this;exact this
 have HRF : Hid (∀ w',Below w.heap.size w w' → Calls Tryz.prog 8 #[mrV r c a l cap,.int .u64 (p : Int)] w' fun e w'' => e = .returned (.bool true) ∧ Below w'.heap.size w' w'') := fun w' h => refuses_no hl hs hg (hc.now h)
 obtain ⟨W0,hW⟩ : ∃ W0,w.alloc (mrO r c a l cap) = W0 := ⟨_,rfl⟩
 obtain ⟨b0,sz0⟩ := zJA w (mrO r c a l cap);rw [hW] at b0 sz0;have PA : Hid (Cel W0 w.heap.size 24 (mrC r c a l cap)) := by unfold Hid;rw [← hW];exact Cel.new w _ _
 have HW := hid (zCG W0);have G0 := hid b0;have EW := hid hW;clear b0 sz0 hW hs hc hg;go_enter Tryz.func3,Tryz.ntmps3;go_wp2_with fail;rw [EW.out];refine HW.out.mono ?_;rintro e w1 ⟨rfl,b1⟩;replace PA := hid (PA.out.step b1);have G := hid (below_step G0.out b1);clear HW EW b1 G0;have x0 := PA.out.at (i := 0) rfl;have x1 := PA.out.at (i := 1) rfl;have x2 := PA.out.at (i := 2) rfl;go_wp2_with fail;refine (HSA.out w1).mono ?_;rintro e w2 ⟨rfl,b⟩;replace PA := hid (PA.out.step b);replace G := hid (below_step G.out b);clear b x0 x1 x2 HSA;have x0 := PA.out.at (i := 0) rfl;have x1 := PA.out.at (i := 1) rfl;have x2 := PA.out.at (i := 2) rfl;go_wp2_with fail;refine (HLP.out w2).mono ?_;rintro e w4 ⟨rfl,rfl⟩;go_wp2_with fail;refine (HRF.out _ G.out).mono ?_;rintro e w3 ⟨rfl,b⟩;replace G := hid (below_step G.out b);clear b x0 x1 x2 HRF PA;go_wp2;go_ret;exact ⟨rfl,G.out⟩
end Go.Proofs.YtnfkibjoconphaaGreat
namespace Go.Proofs.YtnfkibjoconphaaGreat
def su : Nat → (Nat → Int) → Int
 | 0,_ => 0
 | n + 1,f => su n f + f n
theorem zaG : ∀ {n : Nat} {f g : Nat → Int},(∀ k,k < n → f k = g k) → su n f = su n g
 | 0,_,_,_ => rfl
 | n + 1,f,g,h => by
  show su n f + f n = su n g + g n
  rw [zaG (fun k hk => h k (by omega)),h n (by omega)]
section
variable {n : Nat} {F : (Nat → Nat → Int) → Int}
end

open Go.RowKit
def RCk (w : World) (e : Ending) (w' : World) : Prop := e = .returned (.int .i64 0) ∧ Below w.heap.size w w'
theorem rcheck12 {w : World} {r c : Nat} {a : Option Addr} {l cap : Nat} (hr : r ≤ 64) (hc : c ≤ 64) (hl : l = r * c) : Calls Tryz.prog 26 #[matv r c (.slice a l cap)] w (RCk w) := by
 obtain ⟨W0,hW⟩ : ∃ W0,w.alloc (matO r c (.slice a l cap)) = W0 := ⟨_,rfl⟩
 obtain ⟨b0,sz0⟩ := alo1 w (matO r c (.slice a l cap));rw [hW] at b0 sz0;have P1 : Hid (Cel W0 w.heap.size 24 (matc r c (.slice a l cap))) := by unfold Hid;rw [← hW];exact Cel.new w _ _
 have x0 := P1.out.at (i := 0) rfl;have x1 := P1.out.at (i := 1) rfl;have x2 := P1.out.at (i := 2) rfl;rw [← hW] at x0 x1 x2;have G0 := hid b0;have EW := hid hW;clear b0 sz0 hW P1;have h1 : ¬ (r : Int) < 0 := by omega
 have h2 : ¬ (64 : Int) < (r : Int) := by omega
 have h3 : ¬ (c : Int) < 0 := by omega
 have h4 : ¬ (64 : Int) < (c : Int) := by omega
 have hw := zCB (i := r) (c := c) hr hc;rw [← hl] at hw;have hw2 := hw;rw [IntKind.wrap_i64] at hw2;have q0 : ((l : Int) != (l : Int)) = false := by simp
 clear hl;go_enter Tryz.func26,Tryz.ntmps26;go_wp2;rw [EW.out];go_ret;exact ⟨rfl,G0.out⟩
theorem zzE {w : World} {v : Value} {r c : Nat} {zs : List Int} {K0 : Nat} (h : Mx w v r c zs K0) : ∀ w',Below w.heap.size w w' → Calls Tryz.prog 26 #[v] w' (RCk w') := fun w' hb => by
 obtain ⟨a,cap,rfl,h1,h2⟩ := h.form;exact rcheck12 h1 h2 rfl
theorem rboth12 {w : World} {va vb : Value} {r m r' c : Nat} {xs ys : List Int} {k l : Nat} (ha : Mx w va r m xs k) (hb : Mx w vb r' c ys l) : Calls Tryz.prog 36 #[va,vb] w (RCk w) := by
 have CA := hid (zzE ha);have CB := hid (zzE hb);obtain ⟨a1,cap1,rfl,-,-⟩ := ha.form;obtain ⟨a2,cap2,rfl,-,-⟩ := hb.form;obtain ⟨n1,hn1⟩ : ∃ n1,r * m = n1 := ⟨_,rfl⟩
 obtain ⟨n2,hn2⟩ : ∃ n2,r' * c = n2 := ⟨_,rfl⟩
 rw [hn1] at CA ⊢;rw [hn2] at CB ⊢;clear ha hb hn1 hn2;obtain ⟨W0,hW⟩ : ∃ W0,(w.alloc (matO r m (.slice a1 n1 cap1))).alloc (matO r' c (.slice a2 n2 cap2)) = W0 := ⟨_,rfl⟩
 have b0 : Below w.heap.size w W0 := by rw [← hW];exact ((Below.refl _ _).alloc (Nat.le_refl _) _).alloc (by simp) _
 have PA : Hid (Cel W0 w.heap.size 24 (matc r m (.slice a1 n1 cap1))) := by
  unfold Hid;rw [← hW];exact (Cel.new w _ _).step ((Below.refl _ _).alloc (Nat.le_refl _) _)
 have PB : Hid (Cel W0 (w.heap.size + 1) 24 (matc r' c (.slice a2 n2 cap2))) := by
  unfold Hid;rw [← hW];have := Cel.new (w.alloc (matO r m (.slice a1 n1 cap1))) 24 (matc r' c (.slice a2 n2 cap2))
  simpa using this
 have x0 := PA.out.at (i := 0) rfl;have x1 := PA.out.at (i := 1) rfl;have x2 := PA.out.at (i := 2) rfl;rw [← hW] at x0 x1 x2;have G0 := hid b0;have EW := hid hW;clear b0 hW;go_enter Tryz.func36,Tryz.ntmps36;go_wp2_with fail;rw [EW.out];refine (CA.out _ G0.out).mono ?_;rintro e w1 ⟨rfl,b1⟩;have G1 := hid (below_step G0.out b1);have PB1 := hid (PB.out.step b1);have y0 := PB1.out.at (i := 0) rfl;have y1 := PB1.out.at (i := 1) rfl;have y2 := PB1.out.at (i := 2) rfl;clear x0 x1 x2 EW PA PB G0 b1;go_wp2_with fail;refine (CB.out _ G1.out).mono ?_;rintro e w2 ⟨rfl,b2⟩;have G2 := hid (below_step G1.out b2);clear y0 y1 y2 PB1 G1 b2;go_wp2;go_ret;exact ⟨rfl,G2.out⟩
def zOF (w : World) (r c n : Nat) (e : Ending) (w' : World) : Prop := ∃ g,e = .returned (matv r c (.slice (some ⟨g,0,none⟩) n n)) ∧ w.heap.size ≤ g ∧ Arr w' g (List.replicate n zAG) ∧ Below w.heap.size w w'
theorem ziG {w : World} {r c n : Nat} (hr : r ≤ 64) (hc : c ≤ 64) (hn : r * c = n) : Calls Tryz.prog 27 #[.int .i64 (r : Int),.int .i64 (c : Int)] w (zOF w r c n) := by
 obtain ⟨W0,hW⟩ : ∃ W0,w.alloc mbox = W0 := ⟨_,rfl⟩
 obtain ⟨b0,sz0⟩ := alo1 w mbox;rw [hW] at b0 sz0;have P4 := hid (mbox_new hW);have hm0 := zCB (i := r) (c := c) hr hc;have hrc : r * c ≤ 64 * 64 := Nat.mul_le_mul hr hc;rw [hn] at hm0 hrc;have hm2 := hm0;rw [IntKind.wrap_i64] at hm2;have G0 := hid b0;have EW := hid hW;have SZ := hid sz0;clear b0 hW sz0 hn;go_enter Tryz.func27,Tryz.ntmps27;go_wp2_with (at_make;rw [EW.out];refine zxA _ rfl _ _ rfl _ _ n n rfl rfl rfl rfl (Nat.le_refl _) (by omega) ?_)
 intro w2 hrow hb2 hsz2;have PR := hid (P4.out.step hb2);have r0 := PR.out.at (i := 0) rfl;have r1 := PR.out.at (i := 1) rfl;have r2 := PR.out.at (i := 2) rfl;have f0 := PR.out.fz 0;have f1 := PR.out.fz 1;have f2 := PR.out.fz 2;have FIN : Hid (zOF w r c n (.returned (.agg #[.int .i64 (r : Int),.int .i64 (c : Int),.slice (some ⟨W0.heap.size,0,none⟩) n n])) (put3 w2 w.heap.size (.int .i64 (r : Int)) (.int .i64 (c : Int)) (.slice (some ⟨W0.heap.size,0,none⟩) n n))) :=
  ⟨_,rfl,by have := SZ.out;omega,hrow.put3 (by have := SZ.out;omega) _ _ _,zWA (below_step G0.out hb2) (Nat.le_refl _) _ _ _⟩
 have PF := hid (PR.out.put3 (.int .i64 (r : Int)) (.int .i64 (c : Int)) (.slice (some ⟨W0.heap.size,0,none⟩) n n));clear P4 hrow hb2 hsz2 G0 EW;go_wp2;exact bodyPost_ret (zVI Tryz.results27 PF.out _ (by rfl)) rfl FIN.out
end Go.Proofs.YtnfkibjoconphaaGreat
