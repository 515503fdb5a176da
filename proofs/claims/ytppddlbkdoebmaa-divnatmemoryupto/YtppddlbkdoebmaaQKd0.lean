import Derived.Test.YtppddlbkdoebmaaQDividesToCalls7
import Derived.Test.YtppddlbkdoebmaaQOverToGrow
import Derived.Test.YtppddlbkdoebmaaQBookToBookWord
import Derived.Test.YtppddlbkdoebmaaQMul
set_option maxRecDepth 100000
set_option maxHeartbeats 6400000
set_option linter.unusedVariables false
set_option linter.unusedSimpArgs false
namespace Go.Proofs.Ytppddlbkdoebmaa
open Go.RowKit
def zjB (kind : Int) (xs ys : List Int) (W K : Int) : zMC :=
 if kind = 1 then zUG xs W else if kind = 2 then zZG xs ys else if kind = 3 then zQG xs ys else if kind = 4 then zYG xs ys else if kind = 5 then zXG xs else if kind = 6 then zVG xs ys else zWG xs K
theorem znC {xs ys : List Int} {kind W K : Int} (h1 : 1 ≤ kind) (h7 : kind ≤ 7) (hx : WF xs) (la : xs.length ≤ 1048576) (lb : ys.length ≤ 1048576) (hW : IsW W) (hK : -9223372036854775808 ≤ K ∧ K ≤ 9223372036854775807) : zuA kind xs ys W K (zjB kind xs ys W K) := by
 unfold zjB
 split
 ·subst_vars;exact called_word la lb hW
 split
 ·subst_vars;exact called_divMod la lb
 split
 ·subst_vars;exact called_exact la lb
 split
 ·subst_vars;exact called_gcd la lb
 split
 ·subst_vars;exact called_sqrt la lb
 split
 ·subst_vars;exact called_strip hx la lb
 ·obtain rfl : kind = 7 := by omega
  exact called_root la lb hK
theorem specOf_lst {xs ys : List Int} {kind W K : Int} (hx : WF xs) : zjB kind (lst xs) (lst ys) W K = zjB kind xs ys W K := by
 unfold zjB zUG zZG zQG zYG zXG zVG zWG;rw [val_lst,val_lst,zOF,zlE hx]
theorem sum_len {xs ys gs : List Int} (hx : WF xs) (hy : WF ys) (lx : xs.length ≤ 1048576) (ly : ys.length ≤ 1048576) (hg : zFA gs) (h : val gs ≤ val xs + val ys) : gs.length ≤ 1000000000 := by
 have : gs.length ≤ xs.length + ys.length + 1 := by
  refine zBF hg ?_;have h1 := zXA hx;have h2 := zXA hy;have h3 := zZE (show xs.length ≤ xs.length + ys.length by omega);have h4 := zZE (show ys.length ≤ xs.length + ys.length by omega);have h5 := zhA (xs.length + ys.length);have h6 : pw (xs.length + ys.length + 1) = wB * pw (xs.length + ys.length) := rfl;have h7 : wB = 18446744073709551616 := rfl;rw [h6,h7];omega
 omega
theorem zYE {X Y q r : Int} (h : X = Y * q + r) (hY : 1 ≤ Y) (hq : 0 ≤ q) (hr : 0 ≤ r) : q ≤ X := by
 have : 1 * q ≤ Y * q := Int.mul_le_mul_of_nonneg_right hY hq;omega
theorem ig_le7 {a b : Int} (ha : 0 ≤ a) (hb : 0 ≤ b) : (ig a b : Int) ≤ a + b := by
 obtain ⟨X,rfl⟩ := Int.eq_ofNat_of_zero_le ha;obtain ⟨Y,rfl⟩ := Int.eq_ofNat_of_zero_le hb;unfold ig;simp only [Int.toNat_natCast]
 by_cases h : X = 0
 ·subst h;simp
 ·have := Nat.gcd_le_left Y (show 0 < X by omega)
  omega
theorem ztC {xs ys qs rs : List Int} {kind W K r N E : Int} (hx : WF xs) (hy : WF ys) (lx : xs.length ≤ 1048576) (ly : ys.length ≤ 1048576) (h : zjB kind xs ys W K qs rs r N E) : qs.length ≤ 1000000000 ∧ rs.length ≤ 1000000000 := by
 have x0 := val_nonneg hx;have y0 := val_nonneg hy;have len : ∀ gs,zFA gs → val gs ≤ val xs + val ys → gs.length ≤ 1000000000 := fun gs hg h => sum_len hx hy lx ly hg h
 unfold zjB at h
 split at h
 ·obtain ⟨rfl,_,⟨_,rfl,_⟩ | ⟨h0,h1,h2,_,h4,_⟩⟩ := h
  ·simp
  ·exact ⟨len _ h1 (by have := zYE h4 h0 (val_nonneg h1.1) h2.1;omega),by simp⟩
 split at h
 ·obtain ⟨_,_,⟨_,rfl,rfl,_⟩ | ⟨h0,h1,h2,h4,h5,_⟩⟩ := h
  ·simp
  ·have r0 := val_nonneg h2.1
   exact ⟨len _ h1 (by have := zYE h4 (by omega) (val_nonneg h1.1) r0;omega),len _ h2 (by omega)⟩
 split at h
 ·obtain ⟨rfl,_,_,⟨_,rfl,_⟩ | ⟨h0,q0,r0,h1,h2,h4,h5,h6⟩⟩ := h
  ·simp
  ·have r1 := val_nonneg h2.1
   rcases h6 with ⟨_,rfl,_⟩ | ⟨_,rfl,_⟩
   ·exact ⟨len _ h1 (by have := zYE h4 (by omega) (val_nonneg h1.1) r1;omega),by simp⟩
   ·simp
 split at h
 ·obtain ⟨rfl,_,_,_,h1,h2⟩ := h
  exact ⟨len _ h1 (by rw [h2];exact ig_le7 x0 y0),by simp⟩
 split at h
 ·obtain ⟨_,_,_,t,h0,h1,h2,h3,h4⟩ := h
  have hv := zNA hx;have ht : t * t ≤ vn xs := by
   have := h0.1
   rwa [Nat.pow_succ,Nat.pow_one] at this
  have ht2 := Nat.le_mul_self t;exact ⟨len _ h1 (by rw [h3];omega),len _ h2 (by rw [h4];omega)⟩
 split at h
 ·obtain ⟨rfl,_,⟨_,rfl,_⟩ | ⟨h0,h1,_,n,_,h2,h3,_⟩⟩ := h
  ·simp
  ·have hp0 : 0 < val ys ^ n := Int.pow_pos (by omega)
   have hp : 1 ≤ val ys ^ n := by omega
   exact ⟨len _ h2 (by have := zYE (X := val xs) (r := 0) (by rw [Int.add_zero];exact h3) hp (val_nonneg h2.1) (Int.le_refl _);omega),by simp⟩
 ·obtain ⟨rfl,_,_,⟨_,rfl,_⟩ | ⟨h0,_,k,t,h1,h2,h3,h4⟩⟩ := h
  ·simp
  ·have hv := zNA hx
   have ht : t ≤ vn xs := by
    refine Nat.le_trans ?_ h2.1;obtain ⟨j,rfl⟩ : ∃ j,k = j + 1 := ⟨k - 1,by omega⟩
    rcases Nat.eq_zero_or_pos t with q | q
    ·omega
    ·rw [Nat.pow_succ]
     exact Nat.le_mul_of_pos_left _ (Nat.pow_pos q)
   exact ⟨len _ h3 (by rw [h4];omega),by simp⟩
def Po (B C : Nat) (w : World) (v : Value) (zs : List Int) : Prop := Own B w v zs ∧ ∀ g,v.ownBlock = some g → B ≤ g ∧ g < C
theorem Po.of {B C : Nat} {w : World} {v : Value} {zs : List Int} (h : Own B w v zs) (hC : w.heap.size ≤ C) : Po B C w v zs := ⟨h,fun g hg => ⟨(h.block g hg).1,Nat.lt_of_lt_of_le (h.block g hg).2 hC⟩⟩
theorem Po.keep {B C : Nat} {w w' : World} {v : Value} {zs : List Int} (h : Po B C w v zs) (hk : ∀ g,v.ownBlock = some g → w'.heap[g]? = w.heap[g]?) : Po B C w' v zs := by
 obtain ⟨⟨hw,h1 | ⟨g,r,h1,h2,h3,h4⟩⟩,hg⟩ := h
 ·exact ⟨⟨hw,.inl h1⟩,hg⟩
 ·exact ⟨⟨hw,.inr ⟨g,r,h1,h2,h3,(hk g (by rw [h3];rfl)).trans h4⟩⟩,hg⟩
theorem Po.step {B C : Nat} {w w' : World} {v : Value} {zs : List Int} (h : Po B C w v zs) (hb : Below w.heap.size w w') : Po B C w' v zs := h.keep fun g hg => hb.block g (h.1.block g hg).2
theorem Po.touch {B C : Nat} {w w' : World} {v : Value} {zs : List Int} {S : Nat → Prop} (h : Po B C w v zs) (ht : zYA S w w') (hS : ∀ g,S g → g < B) : Po B C w' v zs :=
 h.keep fun g hg => ht.block g (h.1.block g hg).2 (fun q => by have := hS g q;have := (h.2 g hg).1;omega)
abbrev zKA (q r : Value) (W N E : Int) : Obj := .cells #[q,r,.int .u64 W,.int .i64 N,.int .i64 E] 35 (0,0)
abbrev opOf (kind : Int) (va vb : Value) (W K : Int) : Obj := .cells #[.int .i64 kind,va,vb,.int .u64 W,.int .i64 K] 28 (0,0)
structure St3 (w : World) (ra rb : Nat) (xa ya : List Int) (L : List (Nat × Obj)) (P : List (Nat × Nat × Value × List Int)) (wr : World) : Prop where
 be : Below w.heap.size w wr
 ma : Rm wr ra xa
 mb : Rm wr rb ya
 bx : ∀ p ∈ L,wr.heap[p.1]? = some p.2
 po : ∀ p ∈ P,Po p.1 p.2.1 wr p.2.2.1 p.2.2.2
 qa : w.heap.size < ra
 qb : ra < rb
 nb : ∀ p ∈ L,p.1 ≠ ra ∧ p.1 ≠ rb
 np : ∀ p ∈ P,rb < p.1
theorem St3.lt {w wr : World} {ra rb : Nat} {xa ya : List Int} {L : List (Nat × Obj)} {P : List (Nat × Nat × Value × List Int)} (h : St3 w ra rb xa ya L P wr) : rb < wr.heap.size := h.mb.lt
theorem St3.step {w wr w' : World} {ra rb : Nat} {xa ya : List Int} {L : List (Nat × Obj)} {P : List (Nat × Nat × Value × List Int)} (h : St3 w ra rb xa ya L P wr) (k : Below wr.heap.size wr w') : St3 w ra rb xa ya L P w' :=
 ⟨zAA h.be k,h.ma.step k,h.mb.step k,fun p hp => (k.block _ (Array.getElem?_eq_some_iff.1 (h.bx p hp)).1).trans (h.bx p hp),fun p hp => (h.po p hp).step k,h.qa,h.qb,h.nb,h.np⟩
theorem St3.box {w wr : World} {ra rb : Nat} {xa ya : List Int} {L : List (Nat × Obj)} {P : List (Nat × Nat × Value × List Int)} (h : St3 w ra rb xa ya L P wr) (o : Obj) : St3 w ra rb xa ya ((wr.heap.size,o) :: L) P (wr.alloc o) := by
 have s := h.step ((Below.refl wr.heap.size wr).alloc (Nat.le_refl _) o);have hl := h.lt;have qb := h.qb;refine ⟨s.be,s.ma,s.mb,fun p hp => ?_,s.po,s.qa,s.qb,fun p hp => ?_,s.np⟩
 ·rcases List.mem_cons.1 hp with rfl | hp
  ·exact heap_alloc_new wr o
  ·exact s.bx p hp
 ·rcases List.mem_cons.1 hp with rfl | hp
  ·exact ⟨by show wr.heap.size ≠ ra;omega,by show wr.heap.size ≠ rb;omega⟩
  ·exact s.nb p hp
theorem St3.ans {w wr w' : World} {ra rb : Nat} {xa ya qs rs : List Int} {L : List (Nat × Obj)} {P : List (Nat × Nat × Value × List Int)} {q r : Value} (h : St3 w ra rb xa ya L P wr) (k : Below wr.heap.size wr w') (hq : Own wr.heap.size w' q qs) (hr : Own wr.heap.size w' r rs) :
  St3 w ra rb xa ya L ((wr.heap.size,w'.heap.size,q,qs) :: (wr.heap.size,w'.heap.size,r,rs) :: P) w' := by
 have s := h.step k;have hl := h.lt;refine ⟨s.be,s.ma,s.mb,s.bx,fun p hp => ?_,s.qa,s.qb,s.nb,fun p hp => ?_⟩
 ·rcases List.mem_cons.1 hp with rfl | hp
  ·exact Po.of hq (Nat.le_refl _)
  ·rcases List.mem_cons.1 hp with rfl | hp
   ·exact Po.of hr (Nat.le_refl _)
   ·exact s.po p hp
 ·rcases List.mem_cons.1 hp with rfl | hp
  ·exact hl
  ·rcases List.mem_cons.1 hp with rfl | hp
   ·exact hl
   ·exact s.np p hp
theorem St3.turn {w wr w' : World} {ra rb : Nat} {xa ya xa' ya' : List Int} {L : List (Nat × Obj)} {P : List (Nat × Nat × Value × List Int)} (h : St3 w ra rb xa ya L P wr) {g : Nat} (hg : g = ra ∨ g = rb) (k : zYA (· = g) wr w') (ha : Rm w' ra xa') (hb : Rm w' rb ya') : St3 w ra rb xa' ya' L P w' := by
 have qa := h.qa;have qb := h.qb;have hbe := h.be;refine ⟨⟨k.os.trans hbe.os,k.tape.trans hbe.tape,k.output.trans hbe.output,Nat.le_trans hbe.size k.size,fun j hj => (k.block j (Nat.lt_of_lt_of_le hj hbe.size) (fun e => by change j = g at e;omega)).trans (hbe.block j hj)⟩,ha,hb,fun p hp => ?_,fun p hp => ?_,qa,qb,h.nb,h.np⟩
 ·have hn := h.nb p hp
  exact (k.block _ (Array.getElem?_eq_some_iff.1 (h.bx p hp)).1 (fun e => by change p.1 = g at e;rcases hg with rfl | rfl;exact hn.1 e;exact hn.2 e)).trans (h.bx p hp)
 ·have hn := h.np p hp
  exact (h.po p hp).touch k (fun j e => by change j = g at e;omega)
theorem zEA {W : World} {b : Nat} {x0 x1 x2 x3 x4 : Value} {t : TypeId} (e : W.heap[b]? = some (.cells #[x0,x1,x2,x3,x4] t (0,0))) : Five W b x0 x1 x2 x3 x4 := zNG e
theorem Rm.turned {w : World} {g : Nat} {xs : List Int} (h : Row w g (ws (zPA xs) ++ ws (mrk xs.length))) : Rm w g (zPA xs) := Rm.over (zUA xs) h
theorem Rm.row3 {w : World} {g : Nat} {xs : List Int} (h : Rm w g xs) : Row w g (ws xs ++ ws (mrk xs.length)) := by rw [← zVE];exact h
theorem oth_box {w wr : World} {ra rb : Nat} {xa ya : List Int} {L : List (Nat × Obj)} {P : List (Nat × Nat × Value × List Int)} (h : St3 w ra rb xa ya L P wr) (kind : Int) (w5 : World) (hw : ((wr.alloc (.cells #[.int .u64 6,.int .u64 1] 26)).alloc (.cells #[.int .u64 4] 26)).alloc (opOf kind (.slice (some ⟨wr.heap.size,0,none⟩) 2 2) (.slice (some ⟨wr.heap.size + 1,0,none⟩) 1 1) 5 2) = w5) :
  St3 w ra rb xa ya ((wr.heap.size + 1 + 1,opOf kind (.slice (some ⟨wr.heap.size,0,none⟩) 2 2) (.slice (some ⟨wr.heap.size + 1,0,none⟩) 1 1) 5 2) :: (wr.heap.size + 1,.cells #[.int .u64 4] 26) :: (wr.heap.size,.cells #[.int .u64 6,.int .u64 1] 26) :: L) P w5 := by
 have h1 := h.box (.cells #[.int .u64 6,.int .u64 1] 26);have h2 := h1.box (.cells #[.int .u64 4] 26);have h3 := h2.box (opOf kind (.slice (some ⟨wr.heap.size,0,none⟩) 2 2) (.slice (some ⟨wr.heap.size + 1,0,none⟩) 1 1) 5 2);rw [hw] at h3
 simpa using h3
theorem zJG {w : World} {g : Nat} (h : w.heap[g]? = some (.cells #[.int .u64 6,.int .u64 1] 26 (0,0))) : Sl w.heap.size w (.slice (some ⟨g,0,none⟩) 2 2) [6,1] :=
 Row.whole (xs := [6,1]) h (zCB (by omega) (zCB (by omega) WF.nil)) rfl (by omega)
theorem zhF {w : World} {g : Nat} (h : w.heap[g]? = some (.cells #[.int .u64 4] 26 (0,0))) : Sl w.heap.size w (.slice (some ⟨g,0,none⟩) 1 1) [4] :=
 Row.whole (xs := [4]) h (zCB (by omega) WF.nil) rfl (by omega)
def Ansd (w : World) (ra rb : Nat) (xa ya : List Int) (L : List (Nat × Obj)) (P : List (Nat × Nat × Value × List Int)) (S : zMC) (lo : Nat) (vp : Value) (wx : World) : Prop :=
 ∃ (b : Nat) (a1 a2 : Option Addr) (c1 c2 : Nat) (qs rs : List Int) (W N E : Int),vp = .pointer (some ⟨b,0,none⟩) ∧ S qs rs W N E ∧ Two (.slice a1 qs.length c1) (.slice a2 rs.length c2) ∧ lo ≤ b ∧ b < wx.heap.size ∧
  St3 w ra rb xa ya ((b,zKA (.slice a1 qs.length c1) (.slice a2 rs.length c2) W N E) :: L) ((lo,b,.slice a1 qs.length c1,qs) :: (lo,b,.slice a2 rs.length c2,rs) :: P) wx
theorem zBD {w wr w' : World} {ra rb : Nat} {xa ya qs rs : List Int} {L : List (Nat × Obj)} {P : List (Nat × Nat × Value × List Int)} {S : zMC} {a1 a2 : Option Addr} {c1 c2 : Nat} {W N E : Int} (h : St3 w ra rb xa ya L P wr) (hS : S qs rs W N E) (hq : Own wr.heap.size w' (.slice a1 qs.length c1) qs) (hr : Own wr.heap.size w' (.slice a2 rs.length c2) rs) (ht : Two (.slice a1 qs.length c1) (.slice a2 rs.length c2)) (k : Below wr.heap.size wr w') :
  Ansd w ra rb xa ya L P S wr.heap.size (.pointer (some ⟨w'.heap.size,0,none⟩)) (w'.alloc (zKA (.slice a1 qs.length c1) (.slice a2 rs.length c2) W N E)) :=
 ⟨w'.heap.size,a1,a2,c1,c2,qs,rs,W,N,E,rfl,hS,ht,k.size,by simp,(h.ans k hq hr).box _⟩
theorem znB {w : World} {S : zMC} {q r q' r' : Value} {qs rs qs' rs' : List Int} {W N E W' N' E' : Int} (hS : zzA S) (h : S qs rs W N E) (h' : S qs' rs' W' N' E') (s1 : Sl w.heap.size w q qs) (s2 : Sl w.heap.size w r rs) (s3 : Sl w.heap.size w q' qs') (s4 : Sl w.heap.size w r' rs') :
  Calls Try.prog 11 #[.agg #[q,r,.int .u64 W,.int .i64 N,.int .i64 E],.agg #[q',r',.int .u64 W',.int .i64 N',.int .i64 E']] w (zYB w) := by
 obtain ⟨rfl,rfl,rfl,rfl,rfl⟩ := hS _ _ _ _ _ _ _ _ _ _ h h';exact same3_yes s1 s2 s3 s4
theorem zFE {w : World} {g n cap cap' : Nat} {xs : List Int} (h : Rm w g xs) (hw : WF xs) (hn : xs.length = n) (hl : n ≤ 1048576) (hc : n ≤ cap) :
  Calls Try.prog 14 #[.slice (some ⟨g,0,none⟩) cap cap',.int .i64 (n : Int)] w fun e w' => e = .returned (.tuple #[]) ∧ Rm w' g (zPA xs) ∧ zYA (· = g) w w' := by
 subst hn;exact (turn_any hc h.row3 hw hl).mono fun e w' ⟨h1,h2,h3⟩ => ⟨h1,Rm.turned h2,h3⟩
theorem St3.turnA {w wr w' : World} {ra rb : Nat} {xa ya T : List Int} {L : List (Nat × Obj)} {P : List (Nat × Nat × Value × List Int)} (h : St3 w ra rb xa ya L P wr) (k : zYA (· = ra) wr w') (hT : Rm w' ra T) : St3 w ra rb T ya L P w' :=
 h.turn (.inl rfl) k hT (k.row h.mb (fun e => by have := h.qb;change rb = ra at e;omega))
theorem St3.turnB {w wr w' : World} {ra rb : Nat} {xa ya T : List Int} {L : List (Nat × Obj)} {P : List (Nat × Nat × Value × List Int)} (h : St3 w ra rb xa ya L P wr) (k : zYA (· = rb) wr w') (hT : Rm w' rb T) : St3 w ra rb xa T L P w' :=
 h.turn (.inr rfl) k (k.row h.ma (fun e => by have := h.qb;change ra = rb at e;omega)) hT
theorem St3.more {w wr w' : World} {ra rb b : Nat} {xa ya qs rs : List Int} {L : List (Nat × Obj)} {P : List (Nat × Nat × Value × List Int)} {q r : Value} {o : Obj} (h : St3 w ra rb xa ya L P wr) (k : Below wr.heap.size wr w') (hq : Own wr.heap.size w' q qs) (hr : Own wr.heap.size w' r rs) (hb : w'.heap[b]? = some o) (hl : wr.heap.size ≤ b) :
  St3 w ra rb xa ya ((b,o) :: L) ((wr.heap.size,w'.heap.size,q,qs) :: (wr.heap.size,w'.heap.size,r,rs) :: P) w' := by
 have s := h.ans k hq hr;have hlt := h.lt;have qb := h.qb;refine ⟨s.be,s.ma,s.mb,fun p hp => ?_,s.po,s.qa,s.qb,fun p hp => ?_,s.np⟩
 ·rcases List.mem_cons.1 hp with rfl | hp
  ·exact hb
  ·exact s.bx p hp
 ·rcases List.mem_cons.1 hp with rfl | hp
  ·exact ⟨by show b ≠ ra;omega,by show b ≠ rb;omega⟩
  ·exact s.nb p hp
theorem St3.blt {w wr : World} {ra rb : Nat} {xa ya : List Int} {L : List (Nat × Obj)} {P : List (Nat × Nat × Value × List Int)} (h : St3 w ra rb xa ya L P wr) {p : Nat × Obj} (hp : p ∈ L) : p.1 < wr.heap.size := (Array.getElem?_eq_some_iff.1 (h.bx p hp)).1
end Go.Proofs.Ytppddlbkdoebmaa
