/-
 QRb18ToBk18: Rb18, Bk18, joined.
-/
import Derived.Test.YtdeomkkpainakaaGreatQLm6ToRf11
import Derived.Test.YtdeomkkpainakaaGreatQRe18

set_option maxRecDepth 100000
set_option maxHeartbeats 6400000
set_option linter.unusedVariables false
set_option linter.unusedSimpArgs false
namespace Go.Proofs.YtdeomkkpainakaaGreat
open Go.RowKit Go.Shelf
theorem rangeB18 {σ α : Type} {P : Program} {n : Nat} {g : Operand} {ps : Array Tmp} {assign body : Code} {Q : Exit → Act → World → Prop} {a : Act} {w : World}
  (h1 : 1 ≤ n) {gf : Nat} {lb : Array Value} (hg : a.eval g = .func (.func gf) #[] lb) (eg : ∀ args w,(callFunc gf args).run P w = .ok (.enter gf args) w)
  (enc : α → Array Value) (hps : ∀ x,(enc x).size = ps.size)
  (J : σ → World → Prop) (hJ : OwnFrom w.heap.size J) (At : σ → α → World → Prop) (hAt : ∀ s x,OwnFrom w.heap.size (fun (_ : Unit) W => At s x W)) (nx : σ → α → σ)
  (Kp : σ → World → World → Prop) (hKt : ∀ {s : σ} {A B C : World},Kp s A B → Kp s B C → Kp s A C) (hKb : ∀ (s : σ) (W : World) (l : Nat) (o o' : Obj),w.heap.size ≤ l → W.heap[l]? = some o → o.isCells = false → Kp s W (W.putObj l o'))
  (Ini Fin : σ → Prop) (h0 : ∀ s,Ini s → J s w)
  (hit : ∀ (l : Nat) (J' : σ → World → Prop) (W : World),Below w.heap.size w W → (∀ s X,J' s X → J s X) → (∀ s A B,J' s A → Below A.heap.size A B → J' s B) → (∀ s,Ini s → J' s W) →
   (∀ s x X,J' s X → At s x X → YieldAt Fence.wide (n - 1 - 1) P l (enc x) X fun e Y => e = .returned (.bool true) ∧ J' (nx s x) Y ∧ Kp s X Y) →
   CallsIn Fence.wide (n - 1) P gf (#[.func (.yield l) #[] #[]] ++ lb) W fun e Y => (∃ v,e = .returned v) ∧ ∃ s,Fin s ∧ J' s Y)
  (hKa : ∀ (s : σ) (W : World) (o : Obj),Kp s W (W.alloc o)) (ob : α → Obj) (a₁ : α → Nat → Act) (hassign : ∀ (l : Nat) (x : α) (W : World) (K : Act → World → Prop),K (a₁ x W.heap.size) (W.alloc (ob x)) →
   assign.wpIn (Fence.wide.inRound l) (n - 1 - 1) P (Exit.then K (fun _ _ _ => False)) { tmps := (ps.zip (enc x)).foldl (fun t (p,v) => t.setIfInBounds p v) a.tmps,defers := [] } W)
  (hbody : ∀ (l : Nat) (s : σ) (x : α) (bq : Nat) (W : World),J s W → At s x W → W.heap[bq]? = some (ob x) → w.heap.size + 2 ≤ bq → body.wpIn (Fence.wide.inRound l) (n - 1 - 1) P (fun e _ Y => e = .normal ∧ KeepsFrom w.heap.size W Y ∧ J (nx s x) Y ∧ Kp s W Y) (a₁ x bq) W)
  (hdone : ∀ (D : Nat) (s : σ) (W : World),w.heap.size ≤ D → Fin s → J s W → W.heap[D]? = some (.deferred (some [])) → Q .normal { a with defers := { target := .collected D,args := #[] } :: a.defers } W) :
  (Code.rangeFunc g ps assign body).wpIn Fence.wide n P Q a w := by
 refine wpIn_rangeFunc fun fn hfn => ?_
 obtain ⟨R,hR⟩ : ∃ R : LoopState → Option Code → Loop,R = fun st pe => { state := st,pending := pe,fn,tmps := a.tmps,params := ps,assign,body,defers := w.heap.size } := ⟨_,rfl⟩
 obtain ⟨W1,hW1⟩ : ∃ W1,(w.alloc (.deferred (some []))).alloc (.loop (R .ready none)) = W1 := ⟨_,rfl⟩
 have bw : Below w.heap.size w W1 := by rw [← hW1];exact (((Below.refl _ w).alloc (Nat.le_refl _) _).alloc (by simp) _)
 have hL : W1.heap[w.heap.size + 1]? = some (.loop (R .ready none)) := by
  rw [← hW1];have := World.alloc_heap_new (w.alloc (.deferred (some []))) (.loop (R .ready none))
  rwa [World.size_alloc] at this
 have hD : W1.heap[w.heap.size]? = some (.deferred (some [])) := by
  rw [← hW1];exact (Below.heap_alloc _ _ _ (by simp)).trans (World.alloc_heap_new w _)
 refine ⟨w.heap.size + 1,[{ target := .collected w.heap.size,args := #[] }],W1,{ target := .fn (.func gf) lb,args := #[.func (.yield (w.heap.size + 1)) #[] #[]] },W1,gf,#[.func (.yield (w.heap.size + 1)) #[] #[]] ++ lb,W1,?_,?_,fun _ _ => trivial,?_,fun _ => h1,?_⟩
 ·rw [← hW1,hR];exact run_enterLoop_outer _ _ _ _ _
 ·simp only [resolve,hg]
  simp [go_sem]
 ·simp [invoke,go_sem,eg]
 ·refine (hit (w.heap.size + 1) (fun s W => J s W ∧ W.heap[w.heap.size + 1]? = some (.loop (R .ready none)) ∧ W.heap[w.heap.size]? = some (.deferred (some []))) W1 bw (fun s X h => h.1)
   (fun s A B h b => ⟨hJ s A B none h.1 (zJC b) (fun r e => by cases e),(b.block _ (Array.getElem?_eq_some_iff.1 h.2.1).1).trans h.2.1,(b.block _ (Array.getElem?_eq_some_iff.1 h.2.2).1).trans h.2.2⟩)
   (fun s hs => ⟨hJ s w W1 none (h0 s hs) (zJC bw) (fun r e => by cases e),hL,hD⟩) ?_).mono ?_
  ·rintro s x X ⟨hj,hl,hk⟩ hat
   have hlt : w.heap.size + 1 < X.heap.size := (Array.getElem?_eq_some_iff.1 hl).1;have hy := run_yield (P := P) (args := enc x) hl (by rw [hR];exact hps x);rw [hR] at hy;refine ⟨fn,_,assign,body,hy,roundIn_of_wpIn hfn (hassign _ x X _ ?_)⟩;clear hy;obtain ⟨X0,hX0⟩ : ∃ X0,X = X0 := ⟨_,rfl⟩
   have bX : Below X.heap.size X (X.alloc (ob x)) := (Below.refl _ _).alloc (Nat.le_refl _) _;have hp0 : Kp s X (X.alloc (ob x)) := hKa s X (ob x);have hq : (X.alloc (ob x)).heap[X.heap.size]? = some (ob x) := World.alloc_heap_new X (ob x);replace hj := hJ s X (X.alloc (ob x)) none hj (zJC bX) (fun r e => by cases e);replace hat := (hAt s x) () X (X.alloc (ob x)) none hat (zJC bX) (fun r e => by cases e);replace hk := (bX.block _ (Array.getElem?_eq_some_iff.1 hk).1).trans hk;replace hl := (bX.block _ hlt).trans hl;have hbq : w.heap.size + 2 ≤ X.heap.size := by omega
   obtain ⟨bq,hbqe⟩ : ∃ bq,X.heap.size = bq := ⟨_,rfl⟩
   rw [hbqe] at hq hbq ⊢;have hlt0 := hlt;replace hlt : w.heap.size + 1 < (X.alloc (ob x)).heap.size := (Array.getElem?_eq_some_iff.1 hl).1;obtain ⟨Xa,hXa⟩ : ∃ Xa,X.alloc (ob x) = Xa := ⟨_,rfl⟩
   rw [hXa] at hj hat hk hl hlt hq hp0 ⊢;refine ⟨_,run_beginRound hl (by rw [hR]),?_⟩;obtain ⟨X2,hX2⟩ : ∃ X2,Xa.putObj (w.heap.size + 1) (.loop { R .ready none with state := .busy }) = X2 := ⟨_,rfl⟩
   have hl2 : X2.heap[w.heap.size + 1]? = some (.loop { R .ready none with state := .busy }) := by rw [← hX2];exact World.putObj_heap_same hlt
   have hk2 : X2.heap[w.heap.size]? = some (.deferred (some [])) := by rw [← hX2];exact (World.putObj_heap_other (by omega)).trans hk
   have hj2 : J s X2 := by rw [← hX2];exact hJ.putObj _ hj (by omega) hl rfl
   have ha2 : At s x X2 := by rw [← hX2];exact (hAt s x).putObj (s := ()) _ hat (by omega) hl rfl
   have hp2 : Kp s X X2 := hKt hp0 (by rw [← hX2];exact hKb s _ _ _ _ (by omega) hl rfl);have hq2 : X2.heap[bq]? = some (ob x) := by rw [← hX2];exact (World.putObj_heap_other (by omega)).trans hq
   rw [hX2];refine wpIn_mono (hbody _ s x bq X2 hj2 ha2 hq2 hbq) ?_;rintro e a3 X3 ⟨rfl,q1,q2,q3⟩;have hl3 := q1.same _ _ (by omega) hl2 rfl;have hr := run_endRound (P := P) none hl3;refine ⟨_,_,hr,rfl,⟨hJ.putObj _ q2 (by omega) hl3 rfl,?_,?_⟩,hKt (hKt hp2 q3) (hKb s _ _ _ _ (by omega) hl3 rfl)⟩
   ·have := World.putObj_heap_same (w := X3) (r := w.heap.size + 1) (o := .loop { { R .ready none with state := .busy } with state := .ready,pending := none }) (Array.getElem?_eq_some_iff.1 hl3).1
    rw [hR] at this ⊢;exact this
   ·exact (World.putObj_heap_other (by omega)).trans (q1.same _ _ (Nat.le_refl _) hk2 rfl)
  ·rintro e Y ⟨⟨v,rfl⟩,s,hf,hj,hl,hk⟩
   have hr := run_endLoop (P := P) hl (by rw [hR];simp);refine ⟨_,_,hr,?_⟩;rw [hR];exact hdone _ s _ (Nat.le_refl _) hf (hJ.putObj _ hj (by omega) hl rfl) ((World.putObj_heap_other (by omega)).trans hk)
attribute [local go_sem] Oper.semAt_some
abbrev zBH (ρ γ : Nat → Nat) (x : Nat) : Array Value := #[.int .i64 (x : Int),.agg #[.int .i64 (ρ x : Int),.int .i64 (γ x : Int)]]
def ztF (n s : Nat) : Value := if s = n then .int .i64 (-1) else .int .i64 ((n - 1 - s : Nat) : Int)
theorem back18_in {S : Nat → Prop} {B l m Bc n : Nat} {lv : Value} {ρ γ : Nat → Nat} {W : World} (hm : 1 ≤ m) (J : Nat → World → Prop)
  (hbox : W.cell? ⟨Bc,0,none⟩ = some lv) (hBc : Bc < B) (hSc : ¬ S Bc) (hn : n ≤ 64) (hlv : (n = 0 ∧ lv = .slice none 0 0) ∨ ∃ Lb cap,lv = .slice (some ⟨Lb,0,none⟩) n cap ∧ n ≤ cap ∧ Lb < B ∧ ¬ S Lb ∧ ∀ i,i < n → W.cell? ⟨Lb,i * 2,none⟩ = some (.int .i64 (ρ i : Int)) ∧ W.cell? ⟨Lb,i * 2 + 1,none⟩ = some (.int .i64 (γ i : Int))) (h0 : J 0 W)
  (hY : ∀ s X,J s X → s < n → YieldAt Fence.wide (m - 1) Tryz.prog l (zBH ρ γ (n - 1 - s)) X fun e Y => e = .returned (.bool true) ∧ J (s + 1) Y ∧ KpL S B X Y) :
  CallsIn Fence.wide m Tryz.prog 133 #[.func (.yield l) #[] #[],.pointer (some ⟨Bc,0,none⟩)] W fun e Y => (∃ v,e = .returned v) ∧ J n Y := by
 obtain ⟨a,cap,rfl,hcap,hel⟩ : ∃ a cap,lv = .slice a n cap ∧ n ≤ cap ∧ ∀ i,i < n → ∃ Lb,a = some ⟨Lb,0,none⟩ ∧ Lb < B ∧ ¬ S Lb ∧ W.cell? ⟨Lb,i * 2,none⟩ = some (.int .i64 (ρ i : Int)) ∧ W.cell? ⟨Lb,i * 2 + 1,none⟩ = some (.int .i64 (γ i : Int)) := by
  rcases hlv with ⟨rfl,rfl⟩ | ⟨Lb,cap,rfl,h1,h2,h3,h4⟩
  ·exact ⟨none,0,rfl,Nat.le_refl _,fun i hi => by omega⟩
  ·exact ⟨_,cap,rfl,h1,fun i hi => ⟨Lb,rfl,h2,h3,h4 i hi⟩⟩
 have HC := hid hel;have H0 := hid h0;have HY := hid hY;have HSC := hid hSc;have HBX := hid hbox;have HBC := hid hBc;clear hel h0 hY hlv hSc hBc;refine callsIn_of_wp Tryz.func133 rfl trivial ?_ rfl;simp only [Tryz.ntmps133,List.size_toArray,List.length_cons,List.length_nil,Nat.reduceAdd,Nat.reduceSub,Array.replicate_succ,Array.replicate_zero,List.push_toArray,List.append_toArray,List.nil_append,List.cons_append];have hwn : IntKind.i64.wrap ((n : Int) - 1) = (n : Int) - 1 := zYA (by omega) (by omega);gi_wp2_with fail
 gi_loopw [3] (fun i wr => ∃ t : Nat,t ≤ n ∧ i = ztF n t ∧ J t wr ∧ KpL S B W wr)
  (fun i _ => ((intOf i) + 1).toNat)
 case atStart =>
  refine ⟨0,Nat.zero_le _,?_,H0.out,KpL.refl _ _ _⟩;unfold ztF
  by_cases e : n = 0
  ·subst e;simp
  ·rw [if_neg (by omega)]
   congr 1
   omega
 case round =>
  obtain ⟨t,htn,rfl,hj,hk⟩ := hrel;have JJ := hid hj;have KK := hid hk;have hbox' := KK.out.cell HBX.out HBC.out HSC.out;clear hj hk H0 hbox
  by_cases hlt : t < n
  ·obtain ⟨j,hj⟩ : ∃ j,n - 1 - t = j := ⟨_,rfl⟩
   have hjl : j < n := by omega
   have hjl' : (j : Int) < (n : Int) := by omega
   obtain ⟨Lb,rfl,h1,h2,h3,h4⟩ := HC.out j hjl;have c0 := KK.out.cell h3 h1 h2;have c1 := KK.out.cell h4 h1 h2;have ei : ztF n t = .int .i64 (j : Int) := by unfold ztF;rw [if_neg (by omega),hj]
   have en : (Value.int .i64 ((j : Int) - 1)) = ztF n (t + 1) := by
    unfold ztF
    by_cases q : t + 1 = n
    ·rw [if_pos q];congr 1;omega
    ·rw [if_neg q];congr 1;omega
   obtain ⟨fn,tmps,assign,body,hy,hR⟩ := HY.out t wr JJ.out hlt;dsimp only [zBH] at hy;rw [hj] at hy;rw [ei];have EN := hid en;have hjw : IntKind.i64.wrap ((j : Int) - 1) = (j : Int) - 1 := zYA (by omega) (by omega);clear en ei h1 h2 h3 h4 hj JJ;gi_wp2;refine hR.mono ?_;rintro e W4 ⟨rfl,hj4,hk4⟩;gi_wp2;go_roundw
   case rel => exact ⟨t + 1,by omega,EN.out,hj4,KK.out.trans hk4⟩
   case measure => simp [intOf]
  ·obtain rfl : t = n := by omega
   rw [show ztF t t = .int .i64 (-1) from if_pos rfl];gi_wp2;go_end0;exact ⟨⟨_,rfl⟩,JJ.out⟩
theorem back18_new (n : Nat) (a : Option Addr) (len cap : Nat) (w : World) :
  CallsIn Fence.wide n Tryz.prog 114 #[.slice a len cap] w fun e w' => e = .returned (.func (.func 133) #[] #[.pointer (some ⟨w.heap.size,0,none⟩)]) ∧ w' = w.alloc (.cells #[.slice a len cap] 83) := by
 refine callsIn_of_wp Tryz.func114 rfl trivial ?_ rfl;simp only [Tryz.ntmps114,List.size_toArray,List.length_cons,List.length_nil,Nat.reduceAdd,Nat.reduceSub,Array.replicate_succ,Array.replicate_zero,List.push_toArray,List.append_toArray,List.nil_append,List.cons_append];gi_wp2;go_ret;exact ⟨rfl,rfl⟩
theorem Rw17.kc18 {w w' : World} {g n k : Nat} {F : Nat → Int} (h : Rw17 w g n F k) (hk : Kc w w') : Rw17 w' g n F k := by
 obtain ⟨ps,h1,h2⟩ := h;exact ⟨ps,hk.arr h1,h2.kc hk⟩
theorem Wk18.kc18 {B bs Bl Bh Ba m n r kw : Nat} {w w' : World} {lv sv : Value} {ρ γ gs : Nat → Nat} {X : Nat → Nat → Int} (h : Wk18 B w bs Bl Bh Ba lv sv m n r ρ γ gs X kw) (hk : Kc w w') : Wk18 B w' bs Bl Bh Ba lv sv m n r ρ γ gs X kw := by
 refine ⟨hk.cel h.1,hk.cel h.2.1,hk.cel h.2.2.1,hk.cel h.2.2.2.1,h.2.2.2.2.1.cel fun _ _ d => hk.cel d,?_⟩;obtain ⟨h1,h4,h5⟩ := h.2.2.2.2.2;refine ⟨?_,h4,fun i hi => ⟨(h5 i hi).1,(h5 i hi).2.kc18 hk⟩⟩;rcases h1 with h1 | ⟨h0,Lb,cap,t,e,e0,e1,e2⟩
 ·exact .inl h1
 ·exact .inr ⟨h0,Lb,cap,t,e,e0,e1,hk.cel e2⟩
def zRH (B : Nat) (w : World) (bs Bl Bh Ba : Nat) (lv sv : Value) (m n r : Nat) (ρ γ gs : Nat → Nat) (A : Nat → Nat → Int) (kw K T bp : Nat) (s : Nat) (W : World) : Prop :=
 ∃ X b,Wk18 B W bs Bl Bh Ba lv sv m n r ρ γ gs X kw ∧ Lw18 m n K r ρ γ X A T (r - s) b ∧ (r - s < r → r ≤ b) ∧ b ≤ r + 1 ∧ s ≤ r ∧ Cel W bp 105 [.pointer (some ⟨bs,0,none⟩)] ∧ Touch (tl18 gs m) w W
theorem Touch.grown18 {S : Nat → Prop} {w0 w w' : World} {row : Option Nat} (h : Touch S w0 w) (hg : w.grownBy w' row) (hr : ∀ k,row = some k → w0.heap.size ≤ k) : Touch S w0 w' := h.grown hg fun k e => .inl (hr k e)
theorem zRH.own {B bs Bl Bh Ba m n r kw K T bp N : Nat} {lv sv : Value} {ρ γ gs : Nat → Nat} {A : Nat → Nat → Int} {w : World} (hN : w.heap.size ≤ N) : OwnFrom N (zRH B w bs Bl Bh Ba lv sv m n r ρ γ gs A kw K T bp) := fun s W W' row hs hg hr => by
 obtain ⟨X,b,h1,h2,h3,h4,h5,h6,h7⟩ := hs;have hk := zlC hg (fun r e => (hr r e).2);exact ⟨X,b,h1.kc18 hk,h2,h3,h4,h5,hk.cel h6,h7.grown18 hg fun k e => Nat.le_trans hN (hr k e).1⟩
def zhH (B : Nat) (W : World) (bs Bl Bh Ba : Nat) (lv sv : Value) (m n r : Nat) (ρ γ gs : Nat → Nat) (A : Nat → Nat → Int) (kw K T bp bq a : Nat) (s : Value) (wr : World) : Prop :=
 ∃ (t : Nat) (X : Nat → Nat → Int),s = .int .i64 (t : Int) ∧ t ≤ r - (a + 1) ∧ Wk18 B wr bs Bl Bh Ba lv sv m n r ρ γ gs X kw ∧ Lw18 m n K r ρ γ X A T a (a + 1 + t) ∧ Cel wr bp 105 [.pointer (some ⟨bs,0,none⟩)] ∧ Cel wr bq 118 [.int .i64 (ρ a : Int),.int .i64 (γ a : Int)] ∧ Touch (tl18 gs m) W wr
def zgI (B : Nat) (w : World) (bs Bl Bh Ba : Nat) (lv sv : Value) (m n r : Nat) (ρ γ gs : Nat → Nat) (A : Nat → Nat → Int) (kw K T : Nat) (e : Ending) (w' : World) : Prop :=
 ∃ X,e = .returned (.tuple #[]) ∧ Wk18 B w' bs Bl Bh Ba lv sv m n r ρ γ gs X kw ∧ Hb18 m n K r ρ γ X A ∧ Touch (tl18 gs m) w w'
end Go.Proofs.YtdeomkkpainakaaGreat
