/-
 QRb18ToLi18: Rb18, Bk18, Lr18, Se18, Or18, Li18, joined.
-/
import Derived.Test.YtbcgggadelnaaaaGreatQLm6ToWk9
import Derived.Test.YtbcgggadelnaaaaGreatQIp18ToRe18
import Derived.Test.YtbcgggadelnaaaaGreatQOf11ToDz12
import Derived.Test.YtbcgggadelnaaaaGreatQDu12ToRl17

set_option maxRecDepth 100000
set_option maxHeartbeats 6400000
set_option linter.unusedVariables false
set_option linter.unusedSimpArgs false
namespace Go.Proofs.YtbcgggadelnaaaaGreat
open Go.RowKit Go.Shelf
theorem rangeB18 {σ α : Type} {P : Program} {n : Nat} {g : Operand} {ps : Array Tmp} {assign body : Code} {Q : Exit → Act → World → Prop} {a : Act} {w : World}
  (h1 : 1 ≤ n) {gf : Nat} {lb : Array Value} (hg : a.eval g = .func (.func gf) #[] lb) (eg : ∀ args w,(callFunc gf args).run P w = .ok (.enter gf args) w)
  (enc : α → Array Value) (hps : ∀ x,(enc x).size = ps.size)
  (J : σ → World → Prop) (hJ : OwnFrom w.heap.size J) (At : σ → α → World → Prop) (hAt : ∀ s x,OwnFrom w.heap.size (fun (_ : Unit) W => At s x W)) (nx : σ → α → σ)
  (Kp : σ → World → World → Prop) (hKt : ∀ {s : σ} {A B C : World},Kp s A B → Kp s B C → Kp s A C) (hKb : ∀ (s : σ) (W : World) (l : Nat) (o o' : Obj),w.heap.size ≤ l → W.heap[l]? = some o → o.isCells = false → Kp s W (W.putObj l o'))
  (Ini Fin : σ → Prop) (h0 : ∀ s,Ini s → J s w)
  (hit : ∀ (l : Nat) (J' : σ → World → Prop) (W : World),Below w.heap.size w W → (∀ s X,J' s X → J s X) → (∀ s A B,J' s A → Below A.heap.size A B → J' s B) → (∀ s,Ini s → J' s W) →
   (∀ s x X,J' s X → At s x X → YieldAt Fence.wide (n - 1 - 1) P l (enc x) X fun e Y => e = .returned (.bool true) ∧ J' (nx s x) Y ∧ Kp s X Y) →
   CallsIn Fence.wide (n - 1) P gf (#[.func (.yield l) #[] #[]] ++ lb) W fun e Y => (∃ v,e = .returned v) ∧ ∃ s,Fin s ∧ J' s Y)
  (hKa : ∀ (s : σ) (W : World) (o : Obj),Kp s W (W.alloc o)) (ob : α → Obj) (a₁ : α → Nat → Act) (hassign : ∀ (l : Nat) (x : α) (W : World) (K : Act → World → Prop),K (a₁ x W.heap.size) (W.alloc (ob x)) →
   assign.wpIn (Fence.wide.inRound l) (n - 1 - 1) P (Exit.then K (fun _ _ _ => False)) { tmps := (ps.zip (enc x)).foldl (fun t (p,v) => t.setIfInBounds p v) a.tmps,defers := [] } W)
  (hbody : ∀ (l : Nat) (s : σ) (x : α) (bq : Nat) (W : World),J s W → At s x W → W.heap[bq]? = some (ob x) → w.heap.size + 2 ≤ bq → body.wpIn (Fence.wide.inRound l) (n - 1 - 1) P (fun e _ Y => e = .normal ∧ KeepsFrom w.heap.size W Y ∧ J (nx s x) Y ∧ Kp s W Y) (a₁ x bq) W)
  (hdone : ∀ (D : Nat) (s : σ) (W : World),w.heap.size ≤ D → Fin s → J s W → W.heap[D]? = some (.deferred (some [])) → Q .normal { a with defers := { target := .collected D,args := #[] } :: a.defers } W) :
  (Code.rangeFunc g ps assign body).wpIn Fence.wide n P Q a w := by
 refine wpIn_rangeFunc fun fn hfn => ?_
 obtain ⟨R,hR⟩ : ∃ R : LoopState → Option Code → Loop,R = fun st pe => { state := st,pending := pe,fn,tmps := a.tmps,params := ps,assign,body,defers := w.heap.size } := ⟨_,rfl⟩
 obtain ⟨W1,hW1⟩ : ∃ W1,(w.alloc (.deferred (some []))).alloc (.loop (R .ready none)) = W1 := ⟨_,rfl⟩
 have bw : Below w.heap.size w W1 := by rw [← hW1];exact (((Below.refl _ w).alloc (Nat.le_refl _) _).alloc (by simp) _)
 have hL : W1.heap[w.heap.size + 1]? = some (.loop (R .ready none)) := by
  rw [← hW1];have := World.alloc_heap_new (w.alloc (.deferred (some []))) (.loop (R .ready none))
  rwa [World.size_alloc] at this
 have hD : W1.heap[w.heap.size]? = some (.deferred (some [])) := by
  rw [← hW1];exact (Below.heap_alloc _ _ _ (by simp)).trans (World.alloc_heap_new w _)
 refine ⟨w.heap.size + 1,[{ target := .collected w.heap.size,args := #[] }],W1,{ target := .fn (.func gf) lb,args := #[.func (.yield (w.heap.size + 1)) #[] #[]] },W1,gf,#[.func (.yield (w.heap.size + 1)) #[] #[]] ++ lb,W1,?_,?_,fun _ _ => trivial,?_,fun _ => h1,?_⟩
 ·rw [← hW1,hR];exact run_enterLoop_outer _ _ _ _ _
 ·simp only [resolve,hg]
  simp [go_sem]
 ·simp [invoke,go_sem,eg]
 ·refine (hit (w.heap.size + 1) (fun s W => J s W ∧ W.heap[w.heap.size + 1]? = some (.loop (R .ready none)) ∧ W.heap[w.heap.size]? = some (.deferred (some []))) W1 bw (fun s X h => h.1)
   (fun s A B h b => ⟨hJ s A B none h.1 (zEC b) (fun r e => by cases e),(b.block _ (Array.getElem?_eq_some_iff.1 h.2.1).1).trans h.2.1,(b.block _ (Array.getElem?_eq_some_iff.1 h.2.2).1).trans h.2.2⟩)
   (fun s hs => ⟨hJ s w W1 none (h0 s hs) (zEC bw) (fun r e => by cases e),hL,hD⟩) ?_).mono ?_
  ·rintro s x X ⟨hj,hl,hk⟩ hat
   have hlt : w.heap.size + 1 < X.heap.size := (Array.getElem?_eq_some_iff.1 hl).1;have hy := run_yield (P := P) (args := enc x) hl (by rw [hR];exact hps x);rw [hR] at hy;refine ⟨fn,_,assign,body,hy,roundIn_of_wpIn hfn (hassign _ x X _ ?_)⟩;clear hy;obtain ⟨X0,hX0⟩ : ∃ X0,X = X0 := ⟨_,rfl⟩
   have bX : Below X.heap.size X (X.alloc (ob x)) := (Below.refl _ _).alloc (Nat.le_refl _) _;have hp0 : Kp s X (X.alloc (ob x)) := hKa s X (ob x);have hq : (X.alloc (ob x)).heap[X.heap.size]? = some (ob x) := World.alloc_heap_new X (ob x);replace hj := hJ s X (X.alloc (ob x)) none hj (zEC bX) (fun r e => by cases e);replace hat := (hAt s x) () X (X.alloc (ob x)) none hat (zEC bX) (fun r e => by cases e);replace hk := (bX.block _ (Array.getElem?_eq_some_iff.1 hk).1).trans hk;replace hl := (bX.block _ hlt).trans hl;have hbq : w.heap.size + 2 ≤ X.heap.size := by omega
   obtain ⟨bq,hbqe⟩ : ∃ bq,X.heap.size = bq := ⟨_,rfl⟩
   rw [hbqe] at hq hbq ⊢;have hlt0 := hlt;replace hlt : w.heap.size + 1 < (X.alloc (ob x)).heap.size := (Array.getElem?_eq_some_iff.1 hl).1;obtain ⟨Xa,hXa⟩ : ∃ Xa,X.alloc (ob x) = Xa := ⟨_,rfl⟩
   rw [hXa] at hj hat hk hl hlt hq hp0 ⊢;refine ⟨_,run_beginRound hl (by rw [hR]),?_⟩;obtain ⟨X2,hX2⟩ : ∃ X2,Xa.putObj (w.heap.size + 1) (.loop { R .ready none with state := .busy }) = X2 := ⟨_,rfl⟩
   have hl2 : X2.heap[w.heap.size + 1]? = some (.loop { R .ready none with state := .busy }) := by rw [← hX2];exact World.putObj_heap_same hlt
   have hk2 : X2.heap[w.heap.size]? = some (.deferred (some [])) := by rw [← hX2];exact (World.putObj_heap_other (by omega)).trans hk
   have hj2 : J s X2 := by rw [← hX2];exact hJ.putObj _ hj (by omega) hl rfl
   have ha2 : At s x X2 := by rw [← hX2];exact (hAt s x).putObj (s := ()) _ hat (by omega) hl rfl
   have hp2 : Kp s X X2 := hKt hp0 (by rw [← hX2];exact hKb s _ _ _ _ (by omega) hl rfl);have hq2 : X2.heap[bq]? = some (ob x) := by rw [← hX2];exact (World.putObj_heap_other (by omega)).trans hq
   rw [hX2];refine wpIn_mono (hbody _ s x bq X2 hj2 ha2 hq2 hbq) ?_;rintro e a3 X3 ⟨rfl,q1,q2,q3⟩;have hl3 := q1.same _ _ (by omega) hl2 rfl;have hr := run_endRound (P := P) none hl3;refine ⟨_,_,hr,rfl,⟨hJ.putObj _ q2 (by omega) hl3 rfl,?_,?_⟩,hKt (hKt hp2 q3) (hKb s _ _ _ _ (by omega) hl3 rfl)⟩
   ·have := World.putObj_heap_same (w := X3) (r := w.heap.size + 1) (o := .loop { { R .ready none with state := .busy } with state := .ready,pending := none }) (Array.getElem?_eq_some_iff.1 hl3).1
    rw [hR] at this ⊢;exact this
   ·exact (World.putObj_heap_other (by omega)).trans (q1.same _ _ (Nat.le_refl _) hk2 rfl)
  ·rintro e Y ⟨⟨v,rfl⟩,s,hf,hj,hl,hk⟩
   have hr := run_endLoop (P := P) hl (by rw [hR];simp);refine ⟨_,_,hr,?_⟩;rw [hR];exact hdone _ s _ (Nat.le_refl _) hf (hJ.putObj _ hj (by omega) hl rfl) ((World.putObj_heap_other (by omega)).trans hk)
attribute [local go_sem] Oper.semAt_some
abbrev ztG (ρ γ : Nat → Nat) (x : Nat) : Array Value := #[.int .i64 (x : Int),.agg #[.int .i64 (ρ x : Int),.int .i64 (γ x : Int)]]
def zmF (n s : Nat) : Value := if s = n then .int .i64 (-1) else .int .i64 ((n - 1 - s : Nat) : Int)
theorem back18_in {S : Nat → Prop} {B l m Bc n : Nat} {lv : Value} {ρ γ : Nat → Nat} {W : World} (hm : 1 ≤ m) (J : Nat → World → Prop)
  (hbox : W.cell? ⟨Bc,0,none⟩ = some lv) (hBc : Bc < B) (hSc : ¬ S Bc) (hn : n ≤ 64) (hlv : (n = 0 ∧ lv = .slice none 0 0) ∨ ∃ Lb cap,lv = .slice (some ⟨Lb,0,none⟩) n cap ∧ n ≤ cap ∧ Lb < B ∧ ¬ S Lb ∧ ∀ i,i < n → W.cell? ⟨Lb,i * 2,none⟩ = some (.int .i64 (ρ i : Int)) ∧ W.cell? ⟨Lb,i * 2 + 1,none⟩ = some (.int .i64 (γ i : Int))) (h0 : J 0 W)
  (hY : ∀ s X,J s X → s < n → YieldAt Fence.wide (m - 1) Tryz.prog l (ztG ρ γ (n - 1 - s)) X fun e Y => e = .returned (.bool true) ∧ J (s + 1) Y ∧ KpL S B X Y) :
  CallsIn Fence.wide m Tryz.prog 143 #[.func (.yield l) #[] #[],.pointer (some ⟨Bc,0,none⟩)] W fun e Y => (∃ v,e = .returned v) ∧ J n Y := by
 obtain ⟨a,cap,rfl,hcap,hel⟩ : ∃ a cap,lv = .slice a n cap ∧ n ≤ cap ∧ ∀ i,i < n → ∃ Lb,a = some ⟨Lb,0,none⟩ ∧ Lb < B ∧ ¬ S Lb ∧ W.cell? ⟨Lb,i * 2,none⟩ = some (.int .i64 (ρ i : Int)) ∧ W.cell? ⟨Lb,i * 2 + 1,none⟩ = some (.int .i64 (γ i : Int)) := by
  rcases hlv with ⟨rfl,rfl⟩ | ⟨Lb,cap,rfl,h1,h2,h3,h4⟩
  ·exact ⟨none,0,rfl,Nat.le_refl _,fun i hi => by omega⟩
  ·exact ⟨_,cap,rfl,h1,fun i hi => ⟨Lb,rfl,h2,h3,h4 i hi⟩⟩
 have HC := hid hel;have H0 := hid h0;have HY := hid hY;have HSC := hid hSc;have HBX := hid hbox;have HBC := hid hBc;clear hel h0 hY hlv hSc hBc;refine callsIn_of_wp Tryz.func143 rfl trivial ?_ rfl;simp only [Tryz.ntmps143,List.size_toArray,List.length_cons,List.length_nil,Nat.reduceAdd,Nat.reduceSub,Array.replicate_succ,Array.replicate_zero,List.push_toArray,List.append_toArray,List.nil_append,List.cons_append];have hwn : IntKind.i64.wrap ((n : Int) - 1) = (n : Int) - 1 := zbA (by omega) (by omega);gi_wp2_with fail
 gi_loopw [3] (fun i wr => ∃ t : Nat,t ≤ n ∧ i = zmF n t ∧ J t wr ∧ KpL S B W wr)
  (fun i _ => ((intOf i) + 1).toNat)
 case atStart =>
  refine ⟨0,Nat.zero_le _,?_,H0.out,KpL.refl _ _ _⟩;unfold zmF
  by_cases e : n = 0
  ·subst e;simp
  ·rw [if_neg (by omega)]
   congr 1
   omega
 case round =>
  obtain ⟨t,htn,rfl,hj,hk⟩ := hrel;have JJ := hid hj;have KK := hid hk;have hbox' := KK.out.cell HBX.out HBC.out HSC.out;clear hj hk H0 hbox
  by_cases hlt : t < n
  ·obtain ⟨j,hj⟩ : ∃ j,n - 1 - t = j := ⟨_,rfl⟩
   have hjl : j < n := by omega
   have hjl' : (j : Int) < (n : Int) := by omega
   obtain ⟨Lb,rfl,h1,h2,h3,h4⟩ := HC.out j hjl;have c0 := KK.out.cell h3 h1 h2;have c1 := KK.out.cell h4 h1 h2;have ei : zmF n t = .int .i64 (j : Int) := by unfold zmF;rw [if_neg (by omega),hj]
   have en : (Value.int .i64 ((j : Int) - 1)) = zmF n (t + 1) := by
    unfold zmF
    by_cases q : t + 1 = n
    ·rw [if_pos q];congr 1;omega
    ·rw [if_neg q];congr 1;omega
   obtain ⟨fn,tmps,assign,body,hy,hR⟩ := HY.out t wr JJ.out hlt;dsimp only [ztG] at hy;rw [hj] at hy;rw [ei];have EN := hid en;have hjw : IntKind.i64.wrap ((j : Int) - 1) = (j : Int) - 1 := zbA (by omega) (by omega);clear en ei h1 h2 h3 h4 hj JJ;gi_wp2;refine hR.mono ?_;rintro e W4 ⟨rfl,hj4,hk4⟩;gi_wp2;go_roundw
   case rel => exact ⟨t + 1,by omega,EN.out,hj4,KK.out.trans hk4⟩
   case measure => simp [intOf]
  ·obtain rfl : t = n := by omega
   rw [show zmF t t = .int .i64 (-1) from if_pos rfl];gi_wp2;go_end0;exact ⟨⟨_,rfl⟩,JJ.out⟩
theorem back18_new (n : Nat) (a : Option Addr) (len cap : Nat) (w : World) :
  CallsIn Fence.wide n Tryz.prog 123 #[.slice a len cap] w fun e w' => e = .returned (.func (.func 143) #[] #[.pointer (some ⟨w.heap.size,0,none⟩)]) ∧ w' = w.alloc (.cells #[.slice a len cap] 73) := by
 refine callsIn_of_wp Tryz.func123 rfl trivial ?_ rfl;simp only [Tryz.ntmps123,List.size_toArray,List.length_cons,List.length_nil,Nat.reduceAdd,Nat.reduceSub,Array.replicate_succ,Array.replicate_zero,List.push_toArray,List.append_toArray,List.nil_append,List.cons_append];gi_wp2;go_ret;exact ⟨rfl,rfl⟩
theorem Rw17.kc18 {w w' : World} {g n k : Nat} {F : Nat → Int} (h : Rw17 w g n F k) (hk : Kc w w') : Rw17 w' g n F k := by
 obtain ⟨ps,h1,h2⟩ := h;exact ⟨ps,hk.arr h1,h2.kc hk⟩
theorem Touch.grown18 {S : Nat → Prop} {w0 w w' : World} {row : Option Nat} (h : Touch S w0 w) (hg : w.grownBy w' row) (hr : ∀ k,row = some k → w0.heap.size ≤ k) : Touch S w0 w' := h.grown hg fun k e => .inl (hr k e)
end Go.Proofs.YtbcgggadelnaaaaGreat
namespace Go.Proofs.YtbcgggadelnaaaaGreat
open Go.RowKit Go.Shelf
attribute [local go_sem] Oper.semAt_some
end Go.Proofs.YtbcgggadelnaaaaGreat
namespace Go.Proofs.YtbcgggadelnaaaaGreat
open Go.RowKit
theorem insert18 {B r vb x y p : Nat} {w : World} {sv : Value} {ρ γ : Nat → Nat} (h : Sp18 B w sv r ρ γ) (hv : Cel w vb 148 [.int .i64 (x : Int),.int .i64 (y : Int)]) (hne : sv.ownBlock ≠ some vb) (hp : p ≤ r) (hr : r < 64) (hB : B ≤ w.heap.size) :
  Calls Tryz.prog 102 #[sv,.int .i64 (p : Int),.slice (some ⟨vb,0,none⟩) 1 1] w (zqF B w sv (r + 1) (insF p x ρ) (insF p y γ)) := by
 by_cases q : p = r
 ·subst q;exact insert_end18 h hv hr hB
 ·rcases id h with ⟨e,_⟩ | ⟨h0,Bp,cap,t,rfl,e0,e1,e2,e3,e4⟩
  ·omega
  ·by_cases q2 : r + 1 ≤ cap
   ·exact insert_shift18 (by omega) hr q2 e1 e2 e3 e4 hv (fun q3 => hne (by subst q3;rfl))
   ·obtain rfl : cap = r := by omega
    exact insert_grow18 (by omega) hr hB e4 hv
theorem zaA {B : Nat} {a b c : World} (h : Below B a b) (k : Below B b c) : Below B a c := ⟨k.os.trans h.os,k.tape.trans h.tape,k.output.trans h.output,Nat.le_trans h.size k.size,fun j hj => (k.block j hj).trans (h.block j hj)⟩
def updF (f : Nat → Nat) (l v : Nat) : Nat → Nat := fun a => if a = l then v else f a
theorem sc18_set {r l v : Nat} {ρ γ : Nat → Nat} (hl : l < r) (t : List Value) : (sc18 r ρ γ ++ t).set (l * 2) (.int .i64 (v : Int)) = sc18 r (updF ρ l v) γ ++ t := by
 induction r generalizing t with
 | zero => omega
 | succ r ih =>
  rw [sc18_succ,sc18_succ,List.append_assoc,List.append_assoc]
  by_cases q : l < r
  ·rw [ih q]
   unfold updF;rw [if_neg (by omega)]
  ·obtain rfl : l = r := by omega
   rw [List.set_append_right _ _ (by rw [zeA];omega),zeA,Nat.sub_self];have e : sc18 l (updF ρ l v) γ = sc18 l ρ γ := zyC fun a ha => ⟨by unfold updF;rw [if_neg (by omega)],rfl⟩
   rw [e];simp [updF]
def orL (ρ : Nat → Nat) (k j : Nat) : Nat → Nat := fun l => if l < j ∧ ρ l = k then ρ k else ρ l
open Go.RowKit Go.Shelf
attribute [local go_sem] Oper.semAt_some
theorem wpList_append_sht18 (w : World) {ops : Array Oper} {rest : List Oper} {o : Oper} {a : Act} {Q : Exit → Act → World → Prop}
  (hgd : o.guard = none) (s x : Operand) (hop : o.op = .call { callee := .builtin .append,args := #[s,x],argTypes := #[61,61] })
  (B c k : Nat) (v : Value) (gs : List Nat) (m : List (List Int)) (hs : a.eval s = v) (hB : ShtM B w v c gs m k) (q gx : Nat) (hx : a.eval x = .slice (some ⟨q,0,none⟩) 1 1) (hc0 : w.cell? ⟨q,0,none⟩ = some (.slice (some ⟨gx,0,none⟩) c c))
  (ps : List (Value × Value)) (zs : List Int) (hA : Arr w gx ps) (hz : Zms w ps zs k) (hzl : zs.length = c) (hgx : B ≤ gx) (hnew : ∀ g ∈ gs,g ≠ gx) (hlen : m.length < 64) (hBs : B ≤ w.heap.size)
  (hK : ∀ g' l' cap' w',Hid (ShtM B w' (.slice (some ⟨g',0,none⟩) l' cap') c (gs ++ [gx]) (m ++ [zs]) k) → Hid (w.grownBy w' v.ownBlock) → Hid (∀ b,v.ownBlock = some b → B ≤ b ∧ ∃ L,w.heap[b]? = some (.cells L 22 (0,0))) → wpList Tryz.prog ops Q rest (a.put o.dst (.slice (some ⟨g',0,none⟩) l' cap')) w') :
  wpList Tryz.prog ops Q (o :: rest) a w := by
 obtain ⟨i,hii,hzz,hsz,hby⟩ := info_parts Tryz.infoL9;obtain ⟨h1,h2,h3,h4,h5,h6⟩ := hB;have ea : ∀ j,(⟨q,0,none⟩ : Addr).add j = ⟨q,j,none⟩ := fun j => by unfold Addr.add;split <;> simp_all
 refine wpList_append_lies w hgd s x 61 hop B 22 i (.slice none 0 0) 1 24 Tryz.underlying61 hii hzz hsz hby rfl (by omega) v gs.length (gs.map (rowv c)) hs h1 ⟨q,0,none⟩ 1 1 [rowv c gx] hx rfl ?_ ?_ (by omega) (by unfold maxLen;omega) (by omega) hBs w.heap.size rfl ?_
 ·intro j u' hj
  match j,hj with
  | 0,hj => simp at hj;subst hj;rw [ea];exact hc0
 ·intro u' hu'
  simp at hu';subst hu'
  rfl
 ·intro g' cap' w' k1 k2 k3 k4
  have ht := Ty.grown h1 k2;have hown : ∀ b,v.ownBlock = some b → B ≤ b ∧ ∃ L,w.heap[b]? = some (.cells L 22 (0,0)) := fun b hb => by
   obtain ⟨_,⟨r2,_⟩ | ⟨g2,cap,cur,r2,r3,r4,r5⟩⟩ := h1
   ·rw [r2] at hb;cases hb
   ·rw [r2] at hb
    simp only [Value.ownBlock,Option.some.injEq] at hb;subst hb;exact ⟨r3,cur,r4⟩
  refine hK g' _ cap' w' ⟨by rw [List.length_append,List.map_append];exact k1,?_,by simp [h3],?_,?_,fun j g hg => ?_⟩ k2 hown
  ·intro s t g hs ht
   have hs1 := (List.getElem?_eq_some_iff.1 hs).1;have ht1 := (List.getElem?_eq_some_iff.1 ht).1;simp at hs1 ht1
   by_cases p1 : s < gs.length
   ·rw [List.getElem?_append_left p1] at hs
    by_cases p2 : t < gs.length
    ·rw [List.getElem?_append_left p2] at ht
     exact h2 s t g hs ht
    ·rw [List.getElem?_append_right (by omega)] at ht
     have : t - gs.length = 0 := by omega
     rw [this] at ht;simp at ht;exact absurd ht.symm (hnew g (List.mem_of_getElem? hs))
   ·by_cases p2 : t < gs.length
    ·rw [List.getElem?_append_left p2] at ht
     rw [List.getElem?_append_right (by omega)] at hs;have : s - gs.length = 0 := by omega
     rw [this] at hs;simp at hs;exact absurd hs.symm (hnew g (List.mem_of_getElem? ht))
    ·omega
  ·intro g hg
   rcases List.mem_append.1 hg with r | r
   ·exact h4 g r
   ·simp at r;subst r;exact hgx
  ·intro r hr
   rcases List.mem_append.1 hr with q' | q'
   ·exact h5 r q'
   ·simp at q';subst q';exact hzl
  ·have carry : ∀ g ps',Arr w g ps' → Arr w' g ps' := fun g ps' hA' => ⟨ht.2 g _ _ _ hA'.1 (by decide),hA'.2⟩
   by_cases p : j < gs.length
   ·rw [List.getElem?_append_left p] at hg
    obtain ⟨ps',r1,r2⟩ := h6 j g hg;have e : zcB (m ++ [zs]) j = zcB m j := by simp [zcB,List.getElem?_append_left (show j < m.length by omega)]
    rw [e];exact ⟨ps',carry _ _ r1,r2.ty ht (by decide)⟩
   ·have hj : j = gs.length := by have := (List.getElem?_eq_some_iff.1 hg).1;simp at this;omega
    subst hj;simp at hg;subst hg;have e : zcB (m ++ [zs]) gs.length = zs := by simp [zcB,h3]
    rw [e];exact ⟨ps,carry _ _ hA,hz.ty ht (by decide)⟩
def zJH (w : World) (Bw c k : Nat) (m : List (List Int)) (s : Nat × List Nat) (W : World) : Prop :=
 ∃ a n q,Cel W Bw 61 [.slice a n q] ∧ ShtM s.1 W (.slice a n q) c s.2 (m.take s.2.length) k ∧ s.2.length ≤ m.length ∧ Below w.heap.size w W ∧ w.heap.size ≤ s.1 ∧ (s.2 = [] → Value.slice a n q = .slice none 0 0)
theorem zJH.own {w : World} {Bw c k B : Nat} {m : List (List Int)} (hB : w.heap.size ≤ B) : OwnFrom B (zJH w Bw c k m) := fun s W W' row hs hg hr => by
 obtain ⟨a,n,q,h1,h3,h4,h5,h6,h7⟩ := hs;have hk := zjC hg (fun r e => (hr r e).2);exact ⟨a,n,q,hk.cel h1,h3.kc hk,h4,h5.grown hg h5.size (fun k e => Nat.le_trans hB (hr k e).1),h6,h7⟩
def lm18 (m : List (List Int)) : Nat → Nat → Int := fun i j => (zcB m i).getD j 0
theorem ShtM.sh18 {B c k : Nat} {w : World} {lv : Value} {gs : List Nat} {m : List (List Int)} (h : ShtM B w lv c gs m k) (hnil : m.length = 0 → lv = .slice none 0 0) : Sh17 B w lv m.length c (fun i => gs.getD i 0) (lm18 m) k := by
 obtain ⟨h1,h2,h3,h4,h5,h6⟩ := h;have hat : ∀ i,i < m.length → gs[i]? = some (gs.getD i 0) := fun i hi => by rw [List.getD_eq_getElem?_getD,List.getElem?_eq_getElem (by omega)];simp
 refine ⟨?_,fun i j hi hj e => ?_,fun i hi => ⟨h4 _ (List.mem_of_getElem? (hat i hi)),?_⟩⟩
 ·rcases h1.2 with ⟨e,e0⟩ | ⟨g,cap,cur,e,e0,e1,e2,e3,e4,e5⟩
  ·exact .inl ⟨by omega,e⟩
  ·by_cases q : m.length = 0
   ·exact .inl ⟨q,hnil q⟩
   ·refine .inr ⟨by omega,g,cap,cur.toList.drop m.length,by rw [e,h3],by omega,e0,?_⟩
    have e6 : gv17 m.length c (fun i => gs.getD i 0) = gs.map (rowv c) := by
     apply List.ext_getElem?
     intro t
     by_cases q : t < m.length
     ·simp only [gv17,List.getElem?_map,List.getElem?_range q,hat t q,Option.map_some]
     ·rw [List.getElem?_eq_none (by simp [gv17];omega),List.getElem?_eq_none (by simp;omega)]
    have e7 : gs.map (rowv c) ++ cur.toList.drop m.length = cur.toList := by
     rw [← e5,h3,Nat.mul_one,List.take_append_drop]
    rw [e6,e7]
    show w.heap[g]? = some (.cells cur.toList.toArray _ _)
    simpa using e1
 ·exact h2 i j _ (hat i hi) (by rw [hat j hj];exact congrArg some e.symm)
 ·obtain ⟨ps,p1,p2⟩ := h6 i _ (hat i hi)
  refine ⟨ps,p1,?_⟩;have e : (List.range c).map (lm18 m i) = zcB m i := by
   have hl : (zcB m i).length = c := h5.at hi
   apply List.ext_getElem?
   intro t
   by_cases q : t < c
   ·rw [List.getElem?_map,List.getElem?_range q]
    show some ((zcB m i).getD t 0) = _
    rw [List.getD_eq_getElem?_getD,List.getElem?_eq_getElem (by omega)];simp
   ·rw [List.getElem?_eq_none (by simp;omega),List.getElem?_eq_none (by omega)]
  rw [e];exact p2
def zIH (w : World) (c : Nat) (m : List (List Int)) (k : Nat) (e : Ending) (w' : World) : Prop := ∃ lv gs,e = .returned lv ∧ Sh17 w.heap.size w' lv m.length c gs (lm18 m) k ∧ Below w.heap.size w w'
theorem znD {w : World} {v : Value} {r c : Nat} {zs : List Int} {k : Nat} (h : Mx w v r c zs k) : Calls Tryz.prog 26 #[v] w (zIH w c (rowsL r c zs) k) := by
 have M0 := hid h;refine (callsIn_wide (n := 5)).1 ?_;obtain ⟨aa,ca,rfl,hr,hc⟩ := h.form;have HZL : Hid (zs.length = r * c) := by obtain ⟨_,_,_,_,_,h,_⟩ := h;exact h
 obtain ⟨la,hla⟩ : ∃ la,r * c = la := ⟨_,rfl⟩
 rw [hla] at M0 ⊢;obtain ⟨W0,hW⟩ : ∃ W0,(w.alloc (matO r c (.slice aa la ca))).alloc (.cells #[.slice none 0 0] 61) = W0 := ⟨_,rfl⟩
 obtain ⟨b0,sz0⟩ := zZA w (matO r c (.slice aa la ca)) (.cells #[.slice none 0 0] 61);rw [hW] at b0 sz0;have pa : Cel W0 w.heap.size 24 (matc r c (.slice aa la ca)) := by
  rw [← hW];exact (Cel.new w 24 (matc r c (.slice aa la ca))).step ((Below.refl _ _).alloc (Nat.le_refl _) _)
 have PW : Hid (Cel W0 (w.heap.size + 1) 61 [.slice none 0 0]) := by
  unfold Hid;rw [← hW];have := Cel.new (w.alloc (matO r c (.slice aa la ca))) 61 [.slice none 0 0]
  simpa using this
 have HLI := hid (lines_yes (M0.out.now b0));have x0 := pa.at (i := 0) rfl;have x1 := pa.at (i := 1) rfl;have x2 := pa.at (i := 2) rfl;rw [← hW] at x0 x1 x2;have G0 := hid b0;have EW := hid hW;have SZ := hid sz0;clear h hla b0 sz0 hW pa M0;refine callsIn_of_wp_marks Tryz.func26 rfl trivial ?_ rfl;simp only [Tryz.ntmps26,List.size_toArray,List.length_cons,List.length_nil,Nat.reduceAdd,Nat.reduceSub,Array.replicate_succ,Array.replicate_zero,List.push_toArray,List.append_toArray,List.nil_append,List.cons_append];gi_wp2_with fail;rw [EW.out];clear EW;refine ⟨trivial,(callsIn_wide.2 HLI.out).mono ?_⟩;rintro e w1 ⟨Bs,ga,ps,rfl,q1,q2,q3,q4,q5,b⟩;have HQ3 := hid q3;have HQ5 := hid q5;have HB1 := hid b;have HQ1 := hid q1;have G1 := hid (below_step G0.out b);replace PW := hid (PW.out.step b);have hs1 := b.size;have hsz := SZ.out;clear q1 q3 q5 b x0 x1 x2 HLI G0;gi_wp2_with fail;have hml : (rowsL r c zs).length = r := zFB;refine rangeW (σ := Nat × List Nat) (α := Nat × Nat) (by decide) rfl (enters_of Tryz.func96 (by kernel_rfl) rfl) (encL c) (fun _ => rfl)
  (zJH w (w.heap.size + 1) c k (rowsL r c zs)) (zJH.own (by omega)) (AtL k (rowsL r c zs)) (fun s x => AtL.own s x) (fun s x => (s.1,s.2 ++ [x.2]))
  (fun s => KpL (· = w.heap.size + 1) s.1) (fun h h' => h.trans h') (fun s W l o o' _ h1 h2 => KpL.put h1 h2) (fun s => s.2 = [] ∧ w.heap.size ≤ s.1) (fun s => s.2.length = r) ?ini ?it (fun x => { tmps := #[matv r c (.slice aa la ca),.pointer (some ⟨w.heap.size,0,none⟩),.slice none 0 0,.pointer (some ⟨w.heap.size + 1,0,none⟩),undef,.slice (some ⟨x.2,0,none⟩) c c,.agg #[.int .i64 (r : Int),.int .i64 (c : Int),.slice aa la ca],.func (.func 96) #[] #[.pointer (some ⟨Bs,0,none⟩)],.int .i64 (x.1 : Int),.slice (some ⟨x.2,0,none⟩) c c,undef,undef,undef,undef,undef],defers := [] }) ?assign ?body ?done
 case ini =>
  rintro ⟨B,gs⟩ ⟨rfl,hB⟩;exact ⟨_,_,_,PW.out,ShtM.nil _ _ _ _,Nat.zero_le _,G1.out,hB,fun _ => rfl⟩
 case it =>
  intro l J' W hW hJ hJb hJ0 hY;have c1 : Cel W Bs 24 (matc r c (.slice (some ⟨ga,0,none⟩) (r * c) (r * c))) := HQ1.out.step hW;have ar := HQ3.out.step hW;have zr := HQ5.out.now hW;have hrc : r * c ≤ 64 * 64 := Nat.mul_le_mul hr hc;have pr : Prs (w.heap.size + 1 + 1 + 0) W (.slice (some ⟨ga,0,none⟩) (r * c) (r * c)) ps := by
   have := ar.prs (B := w.heap.size + 1 + 1 + 0) (by omega) (by omega) (cap := r * c) (by omega);rw [q4] at this;exact this
  refine (lines1_in (by decide) J' c1 pr q4 zr.zis hr hc hJb (fun B hB => hJ0 _ ⟨rfl,Nat.le_trans (Nat.le_trans G1.out.size hW.size) hB⟩) (fun s A h => by
   obtain ⟨_,_,_,_,h3,_⟩ := hJ s A h;exact h3.lt) (by have := hW.size;omega) (fun b off x hs e => ?_) (fun b hs => Nat.le_of_eq hs) (fun s x X h1 h2 _ => hY s x X h1 h2)).mono (fun e Y h => h)
  have hs' : b = w.heap.size + 1 := hs;subst hs';have d := PW.out.step hW
  match off,e with
  | 0,e => rw [d.at (i := 0) rfl] at e;simp at e
  | off + 1,e => simp [World.cell?,show W.heap[w.heap.size + 1]? = _ from d] at e
 case assign =>
  intro l x W K hK;have HKK := hid hK;clear hK;gi_wp2;exact HKK.out
 case body =>
  rintro l ⟨B,gs⟩ ⟨t,gx⟩ W ⟨a,n,q,h1,h3,h4,h5,h6,-⟩ ⟨k1,k2,k3,k4,k5,ps',k6,k7⟩;dsimp only at k1 k2 k3 k4 k5 k6 k7 h3 h4 h6 ⊢;obtain ⟨V,hV⟩ : ∃ V,W.alloc (.cells #[.slice (some ⟨gx,0,none⟩) c c] 22) = V := ⟨_,rfl⟩
  obtain ⟨bv,szv⟩ := alo1 W (.cells #[.slice (some ⟨gx,0,none⟩) c c] 22);rw [hV] at bv szv;have cv : V.cell? ⟨W.heap.size,0,none⟩ = some (.slice (some ⟨gx,0,none⟩) c c) := by rw [← hV];exact (Cel.new W 22 [.slice (some ⟨gx,0,none⟩) c c]).at (i := 0) rfl
  have CV := hid cv;have kv := kc_below bv;have X1 := hid (h1.step bv);have S3 := hid (h3.kc kv);have B5 := hid (below_step h5 bv);have A6 := hid (k6.step bv);have Z7 := hid (k7.now bv);have BV := hid bv;have HB6 := hid h6;have hzl : (zcB (rowsL r c zs) gs.length).length = c := (rows_wide HZL.out).at k2;have y1 := h1.at (i := 0) rfl;have EV := hid hV;have HK4 : Hid (B ≤ V.heap.size) := Nat.le_trans k4 bv.size;have HTL : Hid ((List.take gs.length (rowsL r c zs)).length < 64) := by unfold Hid;rw [List.length_take];omega
  have HTS : Hid (List.take gs.length (rowsL r c zs) ++ [zcB (rowsL r c zs) gs.length] = List.take (gs ++ [gx]).length (rowsL r c zs)) := by
   unfold Hid;rw [List.length_append,List.length_singleton,List.take_succ_eq_append_getElem k2];simp [zcB,k2]
  have HK5 := hid k5;refine wpIn_block (region_roundL (hno_of11 (by kernel_rfl)) (by rintro ⟨a,w,h⟩;cases h.1) ?_);clear h1 h3 h5 h6 k5 k6 k7 kv bv szv hV cv;dsimp only;go_wp2_with (at_builtin;rw [EV.out];refine wpList_append_sht18 V rfl (.tmp 10) (.tmp 12) rfl B c k _ gs _ rfl S3.out W.heap.size gx rfl CV.out ps' _ A6.out Z7.out hzl k3 HK5.out HTL.out HK4.out ?_)
  intro g' l' cap' w3 hS hg hown;have kcv : ∀ (b : Nat) (T : TypeId) (L : List Value),Cel V b T L → T ≠ 22 → Cel w3 b T L := fun b T L d hT => by
   refine (hg.out.block b d.blk (fun e => ?_)).trans d;obtain ⟨_,L',q'⟩ := hown.out b e.symm;have := q'.symm.trans (show V.heap[b]? = _ from d);simp at this;exact hT this.2.symm
  have Y1 := hid (kcv _ _ _ X1.out (by decide));have y0 := Y1.out.at (i := 0) rfl;have f0 := Y1.out.fz 0;obtain ⟨U,hU⟩ : ∃ U,w3.setCell ⟨w.heap.size + 1,0,none⟩ (.slice (some ⟨g',0,none⟩) l' cap') = U := ⟨_,rfl⟩
  have FJ : Hid (zJH w (w.heap.size + 1) c k (rowsL r c zs) (B,gs ++ [gx]) U) := by
   unfold Hid;rw [← hU];refine ⟨_,_,_,Y1.out.set 0 _,?_,by rw [List.length_append];simp;omega,bset ?_ (by omega),HB6.out,fun q => by simp at q⟩
   ·have := hS.out.off (i := 0) (u := .slice (some ⟨g',0,none⟩) l' cap') Y1.out (by decide) (by decide) (by decide)
    rw [HTS.out] at this;exact this
   ·exact B5.out.trans ⟨hg.out.os,hg.out.tape,hg.out.output,hg.out.size,fun b hb => hg.out.block b (Nat.lt_of_lt_of_le hb B5.out.size) (fun e => by have := (hown.out b e.symm).1;have := HB6.out;omega)⟩
  have FK : Hid (KeepsFrom w1.heap.size W U) := by
   unfold Hid;rw [← hU];refine ⟨by simp;exact Nat.le_trans BV.out.size hg.out.size,fun j o hj e ho => ?_⟩;have e1 := (BV.out.block j (Array.getElem?_eq_some_iff.1 e).1).trans e;have e2 := (hg.out.block j (Array.getElem?_eq_some_iff.1 e1).1 (fun q' => by
    obtain ⟨_,L',q''⟩ := hown.out j q'.symm;rw [e1,Option.some.injEq] at q'';subst q'';cases ho)).trans e1
   refine (Below.heap_setCell w3 _ _ j (fun q' => ?_)).trans e2;have q'' : j = w.heap.size + 1 := by simpa using q'
   subst q'';have := e2.symm.trans (show w3.heap[_]? = _ from Y1.out);rw [Option.some.injEq] at this;subst this;cases ho
  have FP : Hid (KpL (· = w.heap.size + 1) B W U) := by
   unfold Hid;rw [← hU];refine ⟨by simp;exact Nat.le_trans BV.out.size hg.out.size,fun j o hj hne e ho => ?_⟩;have e1 := (BV.out.block j (Array.getElem?_eq_some_iff.1 e).1).trans e;have e2 := (hg.out.block j (Array.getElem?_eq_some_iff.1 e1).1 (fun q' => by have := (hown.out j q'.symm).1;omega)).trans e1;exact (Below.heap_setCell w3 _ _ j (fun q' => hne (by simpa using q'))).trans e2
  have EU := hid hU;clear hU hS hg hown kcv X1 S3 B5 A6 Z7 BV CV HTS HTL HK4 HK5 EV y1;go_wp2;rw [EU.out];exact ⟨trivial,FK.out,FJ.out,FP.out⟩
 case done =>
  rintro D ⟨B,gs⟩ W hDs hl ⟨a,n,q,h1,h3,h4,h5,h6,h7⟩ hD;dsimp only at hl h3 h6;have x0 := h1.at (i := 0) rfl;have kg := zjC (grownBy_putObj' W D (.deferred none)) (fun r e => by cases e;exact ⟨_,hD,rfl⟩);have BB := h5.trans (belowK_b (w := w) (Nat.le_refl _) _ D _ (.deferred none) (by have := G1.out.size;omega) hD rfl rfl);have HZ : Hid (zIH w c (rowsL r c zs) k (.returned (.slice a n q)) (W.putObj D (.deferred none))) := by
   have s3 := h3.kc kg;rw [hl,List.take_of_length_le (by omega)] at s3;obtain ⟨z1,z2,z3,z4,z5,z6⟩ := s3;exact ⟨_,_,rfl,ShtM.sh18 ⟨owns_mono11 z1 h6,z2,z3,fun g hg => Nat.le_trans h6 (z4 g hg),z5,z6⟩ (fun q => h7 (List.eq_nil_of_length_eq_zero (by omega))),BB⟩
  have HK := hid hD;clear h1 h3 h4 h5 kg BB hD;gi_wp2;refine ⟨by simp,.inl ⟨_,_,rfl,run_takeDeferred HK.out,?_⟩⟩;exact ⟨_,by simp [results,Tryz.results26,go_sem],HZ.out⟩
end Go.Proofs.YtbcgggadelnaaaaGreat
