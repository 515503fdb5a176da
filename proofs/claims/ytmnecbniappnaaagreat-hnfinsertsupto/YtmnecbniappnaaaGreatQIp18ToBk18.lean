/-
 QIp18ToBk18: Ip18, Rb18, Bk18, joined.
-/
import Derived.Test.YtmnecbniappnaaaGreatQIn18ToIo18
import Derived.Lib.JoinLaws
import Derived.Test.YtmnecbniappnaaaGreatQLm6ToLeastA9
import Derived.Test.YtmnecbniappnaaaGreatQRe18

set_option maxRecDepth 100000
set_option maxHeartbeats 6400000
set_option linter.unusedVariables false
set_option linter.unusedSimpArgs false
namespace Go.Proofs.YtmnecbniappnaaaGreat
open Go.RowKit Go.Shelf Go.Lib
theorem insert_grow18 {B r vb x y p Bp : Nat} {w : World} {t : List Value} {ρ γ : Nat → Nat} (hp : p < r) (hr : r < 64) (hB : B ≤ w.heap.size) (hc : Cel w Bp 65 (sc18 r ρ γ ++ t))
  (hv : Cel w vb 65 [.int .i64 (x : Int),.int .i64 (y : Int)]) :
  Calls Tryz.prog 43 #[.slice (some ⟨Bp,0,none⟩) r r,.int .i64 (p : Int),.slice (some ⟨vb,0,none⟩) 1 1] w (zuF B w (.slice (some ⟨Bp,0,none⟩) r r) (r + 1) (insF p x ρ) (insF p y γ)) := by
 obtain ⟨i0,hi0,hz0,hzs,hzb⟩ := info_parts zsE;have hsz : (Tryz.prog.info? 65).map (·.size) = some 2 := by rw [hi0];simp [hzs]
 obtain ⟨cs,hcs⟩ : ∃ cs,cs = sc18 r ρ γ := ⟨_,rfl⟩
 have hcl : cs.length = r * 2 := by rw [hcs,zdA]
 rw [← hcs] at hc;have hbw := hc.blk;have hvw := hv.blk;have hone : ∀ v ∈ cs,v.oneCell' = true := by rw [hcs];exact zBG r ρ γ
 have hcell : ∀ j v,cs[j]? = some v → w.cell? ⟨Bp,j,none⟩ = some v := fun j v hj => hc.at (by rw [List.getElem?_append_left (List.getElem?_eq_some_iff.1 hj).1];exact hj)
 have hold : (Builtin.firstCells i0.size p (.slice (some ⟨Bp,0,none⟩) p r)).run Tryz.prog w.drew = .ok (cs.take (p * 2)).toArray w.drew := by
  rw [hzs];exact run_firstCells_some w.drew 2 p ⟨Bp,0,none⟩ p r (cs.take (p * 2)) (by rw [List.length_take];omega) (fun j v hj => by
   rw [Addr.add_lit,Nat.zero_add];rw [List.getElem?_take] at hj
   split at hj
   ·exact hcell j v hj
   ·cases hj)
 obtain ⟨G,hG⟩ : ∃ G,grownCap w (r + 1) r 65 = G := ⟨_,rfl⟩
 have hGn : r + 1 ≤ G := by rw [← hG];exact grownCap_ge w _ _ _
 have hG63 : G ≤ maxLen := by rw [← hG];exact grownCap_le_maxLen w (r + 1) r 65 (by unfold maxLen;omega)
 obtain ⟨Z,hZ⟩ : ∃ Z : Array Value,Builtin.zeroCells (Value.agg #[.int .i64 0,.int .i64 0]).cells (r + 1 - p) ++ Builtin.zeroCells (Value.agg #[.int .i64 0,.int .i64 0]).cells (G - (r + 1)) = Z := ⟨_,rfl⟩
 have hZs : Z.size = (r + 1 - p) * 2 + (G - (r + 1)) * 2 := by
  have hz : ∀ k,(Builtin.zeroCells (Value.agg #[.int .i64 0,.int .i64 0]).cells k).size = k * 2 := fun k => by
   simp [Builtin.zeroCells,Value.cells]
  rw [← hZ,Array.size_append,hz,hz]
 obtain ⟨cur0,hcur0⟩ : ∃ cur0 : Array Value,(cs.take (p * 2)).toArray ++ Z = cur0 := ⟨_,rfl⟩
 have hrz : ∀ ty,(Builtin.append_ #[61,3] ty #[.slice (some ⟨Bp,0,none⟩) p r,.int .i64 ((r + 1 - p : Nat) : Int)]).run Tryz.prog w = .ok (.slice (some ⟨w.heap.size,0,none⟩) (r + 1) G) (w.drew.alloc (.cells cur0 65)) := fun ty => by
  have h := Lib.run_append_grow_zeros w 61 3 ty 65 i0 _ .i64 .i64 Tryz.underlying61 Tryz.underlying3 hi0 hz0 (some ⟨Bp,0,none⟩) p r (cs.take (p * 2)) hold (r + 1 - p) (by omega) (by omega) (by omega) (by omega) (by rw [hzb];omega) (by rw [hzb,show p + (r + 1 - p) = r + 1 by omega];exact growslice_fits (by omega) (by omega));rw [show p + (r + 1 - p) = r + 1 by omega,hG,Array.append_assoc,hZ,hcur0] at h;exact h
 have hs0 : cur0.size = G * 2 := by rw [← hcur0,Array.size_append,hZs];simp [hcl];omega
 obtain ⟨W1,hW1⟩ : ∃ W1,w.drew.alloc (.cells cur0 65) = W1 := ⟨_,rfl⟩
 have hg0 : W1.heap[w.heap.size]? = some (.cells cur0 65 (0,0)) := by rw [← hW1];exact World.alloc_heap_new w.drew _
 have bw1 : Below w.heap.size w W1 := by rw [← hW1];exact (((Below.refl _ w).drew).alloc (Nat.le_refl _) _)
 obtain ⟨cur1,hcur1⟩ : ∃ cur1 : Array Value,cur1 = (cur0.toList.take (p * 2) ++ [Value.int .i64 (x : Int),Value.int .i64 (y : Int)] ++ cur0.toList.drop (p * 2 + 2)).toArray := ⟨_,rfl⟩
 have hs1 : cur1.size = G * 2 := by rw [hcur1];simp [hs0];omega
 have hvc : Cel W1 vb 65 [.int .i64 (x : Int),.int .i64 (y : Int)] := hv.step bw1;have hcpA : ∀ W : World,W.heap = W1.heap → ∀ ty dc,(Builtin.copy_ #[61,61] ty #[.slice (some ⟨w.heap.size,p * 2,none⟩) (r + 1 - p) dc,.slice (some ⟨vb,0,none⟩) 1 1]).run Tryz.prog W = .ok (goInt ((1 : Nat) : Int)) (W.setRow w.heap.size cur1) := fun W hW ty dc => by
  have h := zGB (P := Tryz.prog) W 61 61 ty 65 w.heap.size (p * 2) (r + 1 - p) dc ⟨vb,0,none⟩ 1 1 cur0 65 [Value.int .i64 (x : Int),Value.int .i64 (y : Int)] 1 Tryz.underlying61 hsz (by rw [hW];exact hg0) (by simp only [Nat.min_def];split <;> omega) rfl
   (fun j v hj => by
    rw [Addr.add_lit,Nat.zero_add];have := hvc.at hj;simp only [World.cell?,hW] at this ⊢;exact this)
   (by simp [hs0];omega) (by intro u hu;simp at hu;rcases hu with rfl | rfl <;> rfl)
  rw [h];simp only [List.length_cons,List.length_nil,Nat.zero_add,Nat.reduceAdd];rw [← hcur1]
 obtain ⟨W2,hW2⟩ : ∃ W2,W1.setRow w.heap.size cur1 = W2 := ⟨_,rfl⟩
 have hg1 : W2.heap[w.heap.size]? = some (.cells cur1 65 (0,0)) := by rw [← hW2];exact setRow_heap W1 w.heap.size cur0 cur1 _ _ hg0
 have hc2 : Cel W2 Bp 65 (cs ++ t) := by
  rw [← hW2]
  show (W1.setRow w.heap.size cur1).heap[Bp]? = _
  unfold World.setRow;rw [Array.getElem?_modify,if_neg (by omega)];exact hc.step bw1
 have hdl : (cs.drop (p * 2)).length = (r - p) * 2 := by rw [List.length_drop,hcl];omega
 obtain ⟨cur2,hcur2⟩ : ∃ cur2 : Array Value,cur2 = (cur1.toList.take ((p + 1) * 2) ++ cs.drop (p * 2) ++ cur1.toList.drop ((p + 1) * 2 + (cs.drop (p * 2)).length)).toArray := ⟨_,rfl⟩
 have hlen2 : cur2.size = G * 2 := by rw [hcur2];simp [hs1,hdl];omega
 have hcpB : ∀ W : World,W.heap = W2.heap → ∀ ty dc sc,(Builtin.copy_ #[61,61] ty #[.slice (some ⟨w.heap.size,(p + 1) * 2,none⟩) (r - p) dc,.slice (some ⟨Bp,p * 2,none⟩) (r - p) sc]).run Tryz.prog W = .ok (goInt ((r - p : Nat) : Int)) (W.setRow w.heap.size cur2) := fun W hW ty dc sc => by
  have h := zGB (P := Tryz.prog) W 61 61 ty 65 w.heap.size ((p + 1) * 2) (r - p) dc ⟨Bp,p * 2,none⟩ (r - p) sc cur1 65 (cs.drop (p * 2)) (r - p) Tryz.underlying61 hsz (by rw [hW];exact hg1) (by simp only [Nat.min_def];split <;> omega) hdl
   (fun j v hj => by
    rw [Addr.add_lit];rw [List.getElem?_drop] at hj;have hjl := (List.getElem?_eq_some_iff.1 hj).1;have := hc2.at (i := p * 2 + j) (v := v) (by rw [List.getElem?_append_left hjl];exact hj);simp only [World.cell?,hW] at this ⊢;exact this)
   (by rw [hdl,hs1];omega) (fun v hv => hone v (List.mem_of_mem_drop hv))
  rw [h,← hcur2]
 have hfin : cur2.toList = sc18 (r + 1) (insF p x ρ) (insF p y γ) ++ cur2.toList.drop ((r + 1) * 2) := by
  obtain ⟨d,hd⟩ : ∃ d,r = p + d := ⟨r - p,by omega⟩
  have e := zMD (p := p) (x := x) (y := y) (ρ := ρ) (γ := γ) d;rw [← hd,← hcs] at e;rw [e];have e0 : cur0.toList = cs.take (p * 2) ++ Z.toList := by rw [← hcur0];simp
  have l0 : (cs.take (p * 2)).length = p * 2 := by rw [List.length_take];omega
  have e1 : cur1.toList = cs.take (p * 2) ++ [Value.int .i64 (x : Int),Value.int .i64 (y : Int)] ++ cur0.toList.drop (p * 2 + 2) := by
   rw [hcur1,e0,List.take_append_of_le_length (by omega),List.take_take,Nat.min_self]
  have l1 : (cs.take (p * 2) ++ [Value.int .i64 (x : Int),Value.int .i64 (y : Int)]).length = (p + 1) * 2 := by simp [l0];omega
  have t1 : cur1.toList.take ((p + 1) * 2) = cs.take (p * 2) ++ [Value.int .i64 (x : Int),Value.int .i64 (y : Int)] := by rw [e1,← l1,List.take_left]
  obtain ⟨Y,hY⟩ : ∃ Y,cur1.toList.drop ((p + 1) * 2 + (cs.drop (p * 2)).length) = Y := ⟨_,rfl⟩
  have e2 : cur2.toList = (cs.take (p * 2) ++ [Value.int .i64 (x : Int),Value.int .i64 (y : Int)] ++ cs.drop (p * 2)) ++ Y := by rw [hcur2,t1,hY]
  have l3 : (cs.take (p * 2) ++ [Value.int .i64 (x : Int),Value.int .i64 (y : Int)] ++ cs.drop (p * 2)).length = (r + 1) * 2 := by rw [List.length_append,l1,hdl];omega
  rw [e2,← l3,List.drop_left]
 have FIN : Hid (∀ W : World,W.heap = (W2.setRow w.heap.size cur2).heap → W.os = w.os → W.tape = w.tape → W.output = w.output → zuF B w (.slice (some ⟨Bp,0,none⟩) r r) (r + 1) (insF p x ρ) (insF p y γ) (.returned (.slice (some ⟨w.heap.size,0,none⟩) (r + 1) G)) W) := fun W h1 h2 h3 h4 => by
  have ht : Touch (fun b => (Value.slice (some ⟨Bp,0,none⟩) r r).ownBlock = some b) w (W2.setRow w.heap.size cur2) := by
   rw [← hW2];exact zFB (zFB (Touch.ofBelow bw1) (.inl (Nat.le_refl _)) _) (.inl (Nat.le_refl _)) _
  refine ⟨_,rfl,.inr ⟨by omega,w.heap.size,G,cur2.toList.drop ((r + 1) * 2),rfl,hGn,hB,hG63,by simp [hlen2];omega,?_⟩,⟨h2,h3,h4,by rw [h1];exact ht.size,fun b hb hn => by rw [h1];exact ht.block b hb hn⟩⟩;rw [← hfin]
  show W.heap[w.heap.size]? = _
  rw [h1];have := setRow_heap W2 w.heap.size cur1 cur2 _ _ hg1;rw [this]
 have hz2 : ¬ ((p : Int) = (r : Int)) := by omega
 have hz3 : (r : Int) < (r : Int) + 1 := by omega
 have hw1 : IntKind.i64.wrap ((p : Int) + 1) = (p : Int) + 1 := by rw [IntKind.wrap_i64];omega
 have hw2 : IntKind.i64.wrap ((r : Int) + 1) = (r : Int) + 1 := by rw [IntKind.wrap_i64];omega
 have hw3 : IntKind.i64.wrap ((r : Int) + 1 - (p : Int)) = ((r + 1 - p : Nat) : Int) := by rw [IntKind.wrap_i64];omega
 have htn : ((p : Int) + 1).toNat = p + 1 := by omega
 have hb1 : (0 : Int) ≤ (p : Int) + 1 := by omega
 have hpr : (p : Int) ≤ (r : Int) := by omega
 have hpr2 : (p : Int) ≤ (r : Int) + 1 := by omega
 have hpr3 : (p : Int) + 1 ≤ (r : Int) + 1 := by omega
 have hpr4 : p ≤ r := by omega
 have hpr5 : p ≤ r + 1 := by omega
 have hb2 : ¬ (G = p + 1) := by omega
 have hb3 : ¬ (G = p) := by omega
 have hb4 : ¬ (r = p) := by omega
 have hrz' := hrz 61;have hqA := hcpA ((w.alloc (.cells cur0 65)).drew) (by rw [← hW1];rfl) 3 (G - p);have hqB := hcpB ((((w.alloc (.cells cur0 65)).drew).setRow w.heap.size cur1).drew) (by rw [← hW2,← hW1];rfl) 3 (G - (p + 1)) (r - p);have EW : Hid ((W2.setRow w.heap.size cur2).heap = (((((w.alloc (.cells cur0 65)).drew).setRow w.heap.size cur1).drew).setRow w.heap.size cur2).heap) := by unfold Hid;rw [← hW2,← hW1];rfl
 clear hc hv hcs hcl hbw hvw hone hcell hold hG hZ hZs hcur0 hs0 hW1 hg0 bw1 hcur1 hs1 hvc hcpA hW2 hg1 hc2 hdl hcur2 hlen2 hcpB hfin hrz hi0 hz0 hzs hzb hsz;go_enter Tryz.func43,Tryz.ntmps43;go_wp2_with (at_builtin;refine Lib.wpList_append_run _ rfl _ _ _ _ rfl _ _ rfl rfl _ _ hrz' ?_)
 go_region;go_wp2;go_ret;exact FIN.out _ EW.out.symm rfl rfl rfl
end Go.Proofs.YtmnecbniappnaaaGreat
namespace Go.Proofs.YtmnecbniappnaaaGreat
open Go.RowKit Go.Shelf
theorem rangeB18 {σ α : Type} {P : Program} {n : Nat} {g : Operand} {ps : Array Tmp} {assign body : Code} {Q : Exit → Act → World → Prop} {a : Act} {w : World}
  (h1 : 1 ≤ n) {gf : Nat} {lb : Array Value} (hg : a.eval g = .func (.func gf) #[] lb) (eg : ∀ args w,(callFunc gf args).run P w = .ok (.enter gf args) w)
  (enc : α → Array Value) (hps : ∀ x,(enc x).size = ps.size)
  (J : σ → World → Prop) (hJ : OwnFrom w.heap.size J) (At : σ → α → World → Prop) (hAt : ∀ s x,OwnFrom w.heap.size (fun (_ : Unit) W => At s x W)) (nx : σ → α → σ)
  (Kp : σ → World → World → Prop) (hKt : ∀ {s : σ} {A B C : World},Kp s A B → Kp s B C → Kp s A C) (hKb : ∀ (s : σ) (W : World) (l : Nat) (o o' : Obj),w.heap.size ≤ l → W.heap[l]? = some o → o.isCells = false → Kp s W (W.putObj l o'))
  (Ini Fin : σ → Prop) (h0 : ∀ s,Ini s → J s w)
  (hit : ∀ (l : Nat) (J' : σ → World → Prop) (W : World),Below w.heap.size w W → (∀ s X,J' s X → J s X) → (∀ s A B,J' s A → Below A.heap.size A B → J' s B) → (∀ s,Ini s → J' s W) →
   (∀ s x X,J' s X → At s x X → YieldAt Fence.wide (n - 1 - 1) P l (enc x) X fun e Y => e = .returned (.bool true) ∧ J' (nx s x) Y ∧ Kp s X Y) →
   CallsIn Fence.wide (n - 1) P gf (#[.func (.yield l) #[] #[]] ++ lb) W fun e Y => (∃ v,e = .returned v) ∧ ∃ s,Fin s ∧ J' s Y)
  (hKa : ∀ (s : σ) (W : World) (o : Obj),Kp s W (W.alloc o)) (ob : α → Obj) (a₁ : α → Nat → Act) (hassign : ∀ (l : Nat) (x : α) (W : World) (K : Act → World → Prop),K (a₁ x W.heap.size) (W.alloc (ob x)) →
   assign.wpIn (Fence.wide.inRound l) (n - 1 - 1) P (Exit.then K (fun _ _ _ => False)) { tmps := (ps.zip (enc x)).foldl (fun t (p,v) => t.setIfInBounds p v) a.tmps,defers := [] } W)
  (hbody : ∀ (l : Nat) (s : σ) (x : α) (bq : Nat) (W : World),J s W → At s x W → W.heap[bq]? = some (ob x) → w.heap.size + 2 ≤ bq → body.wpIn (Fence.wide.inRound l) (n - 1 - 1) P (fun e _ Y => e = .normal ∧ KeepsFrom w.heap.size W Y ∧ J (nx s x) Y ∧ Kp s W Y) (a₁ x bq) W)
  (hdone : ∀ (D : Nat) (s : σ) (W : World),w.heap.size ≤ D → Fin s → J s W → W.heap[D]? = some (.deferred (some [])) → Q .normal { a with defers := { target := .collected D,args := #[] } :: a.defers } W) :
  (Code.rangeFunc g ps assign body).wpIn Fence.wide n P Q a w := by
 refine wpIn_rangeFunc fun fn hfn => ?_
 obtain ⟨R,hR⟩ : ∃ R : LoopState → Option Code → Loop,R = fun st pe => { state := st,pending := pe,fn,tmps := a.tmps,params := ps,assign,body,defers := w.heap.size } := ⟨_,rfl⟩
 obtain ⟨W1,hW1⟩ : ∃ W1,(w.alloc (.deferred (some []))).alloc (.loop (R .ready none)) = W1 := ⟨_,rfl⟩
 have bw : Below w.heap.size w W1 := by rw [← hW1];exact (((Below.refl _ w).alloc (Nat.le_refl _) _).alloc (by simp) _)
 have hL : W1.heap[w.heap.size + 1]? = some (.loop (R .ready none)) := by
  rw [← hW1];have := World.alloc_heap_new (w.alloc (.deferred (some []))) (.loop (R .ready none))
  rwa [World.size_alloc] at this
 have hD : W1.heap[w.heap.size]? = some (.deferred (some [])) := by
  rw [← hW1];exact (Below.heap_alloc _ _ _ (by simp)).trans (World.alloc_heap_new w _)
 refine ⟨w.heap.size + 1,[{ target := .collected w.heap.size,args := #[] }],W1,{ target := .fn (.func gf) lb,args := #[.func (.yield (w.heap.size + 1)) #[] #[]] },W1,gf,#[.func (.yield (w.heap.size + 1)) #[] #[]] ++ lb,W1,?_,?_,fun _ _ => trivial,?_,fun _ => h1,?_⟩
 ·rw [← hW1,hR];exact run_enterLoop_outer _ _ _ _ _
 ·simp only [resolve,hg]
  simp [go_sem]
 ·simp [invoke,go_sem,eg]
 ·refine (hit (w.heap.size + 1) (fun s W => J s W ∧ W.heap[w.heap.size + 1]? = some (.loop (R .ready none)) ∧ W.heap[w.heap.size]? = some (.deferred (some []))) W1 bw (fun s X h => h.1)
   (fun s A B h b => ⟨hJ s A B none h.1 (zFC b) (fun r e => by cases e),(b.block _ (Array.getElem?_eq_some_iff.1 h.2.1).1).trans h.2.1,(b.block _ (Array.getElem?_eq_some_iff.1 h.2.2).1).trans h.2.2⟩)
   (fun s hs => ⟨hJ s w W1 none (h0 s hs) (zFC bw) (fun r e => by cases e),hL,hD⟩) ?_).mono ?_
  ·rintro s x X ⟨hj,hl,hk⟩ hat
   have hlt : w.heap.size + 1 < X.heap.size := (Array.getElem?_eq_some_iff.1 hl).1;have hy := run_yield (P := P) (args := enc x) hl (by rw [hR];exact hps x);rw [hR] at hy;refine ⟨fn,_,assign,body,hy,roundIn_of_wpIn hfn (hassign _ x X _ ?_)⟩;clear hy;obtain ⟨X0,hX0⟩ : ∃ X0,X = X0 := ⟨_,rfl⟩
   have bX : Below X.heap.size X (X.alloc (ob x)) := (Below.refl _ _).alloc (Nat.le_refl _) _;have hp0 : Kp s X (X.alloc (ob x)) := hKa s X (ob x);have hq : (X.alloc (ob x)).heap[X.heap.size]? = some (ob x) := World.alloc_heap_new X (ob x);replace hj := hJ s X (X.alloc (ob x)) none hj (zFC bX) (fun r e => by cases e);replace hat := (hAt s x) () X (X.alloc (ob x)) none hat (zFC bX) (fun r e => by cases e);replace hk := (bX.block _ (Array.getElem?_eq_some_iff.1 hk).1).trans hk;replace hl := (bX.block _ hlt).trans hl;have hbq : w.heap.size + 2 ≤ X.heap.size := by omega
   obtain ⟨bq,hbqe⟩ : ∃ bq,X.heap.size = bq := ⟨_,rfl⟩
   rw [hbqe] at hq hbq ⊢;have hlt0 := hlt;replace hlt : w.heap.size + 1 < (X.alloc (ob x)).heap.size := (Array.getElem?_eq_some_iff.1 hl).1;obtain ⟨Xa,hXa⟩ : ∃ Xa,X.alloc (ob x) = Xa := ⟨_,rfl⟩
   rw [hXa] at hj hat hk hl hlt hq hp0 ⊢;refine ⟨_,run_beginRound hl (by rw [hR]),?_⟩;obtain ⟨X2,hX2⟩ : ∃ X2,Xa.putObj (w.heap.size + 1) (.loop { R .ready none with state := .busy }) = X2 := ⟨_,rfl⟩
   have hl2 : X2.heap[w.heap.size + 1]? = some (.loop { R .ready none with state := .busy }) := by rw [← hX2];exact World.putObj_heap_same hlt
   have hk2 : X2.heap[w.heap.size]? = some (.deferred (some [])) := by rw [← hX2];exact (World.putObj_heap_other (by omega)).trans hk
   have hj2 : J s X2 := by rw [← hX2];exact hJ.putObj _ hj (by omega) hl rfl
   have ha2 : At s x X2 := by rw [← hX2];exact (hAt s x).putObj (s := ()) _ hat (by omega) hl rfl
   have hp2 : Kp s X X2 := hKt hp0 (by rw [← hX2];exact hKb s _ _ _ _ (by omega) hl rfl);have hq2 : X2.heap[bq]? = some (ob x) := by rw [← hX2];exact (World.putObj_heap_other (by omega)).trans hq
   rw [hX2];refine wpIn_mono (hbody _ s x bq X2 hj2 ha2 hq2 hbq) ?_;rintro e a3 X3 ⟨rfl,q1,q2,q3⟩;have hl3 := q1.same _ _ (by omega) hl2 rfl;have hr := run_endRound (P := P) none hl3;refine ⟨_,_,hr,rfl,⟨hJ.putObj _ q2 (by omega) hl3 rfl,?_,?_⟩,hKt (hKt hp2 q3) (hKb s _ _ _ _ (by omega) hl3 rfl)⟩
   ·have := World.putObj_heap_same (w := X3) (r := w.heap.size + 1) (o := .loop { { R .ready none with state := .busy } with state := .ready,pending := none }) (Array.getElem?_eq_some_iff.1 hl3).1
    rw [hR] at this ⊢;exact this
   ·exact (World.putObj_heap_other (by omega)).trans (q1.same _ _ (Nat.le_refl _) hk2 rfl)
  ·rintro e Y ⟨⟨v,rfl⟩,s,hf,hj,hl,hk⟩
   have hr := run_endLoop (P := P) hl (by rw [hR];simp);refine ⟨_,_,hr,?_⟩;rw [hR];exact hdone _ s _ (Nat.le_refl _) hf (hJ.putObj _ hj (by omega) hl rfl) ((World.putObj_heap_other (by omega)).trans hk)
attribute [local go_sem] Oper.semAt_some
abbrev zAH (ρ γ : Nat → Nat) (x : Nat) : Array Value := #[.int .i64 (x : Int),.agg #[.int .i64 (ρ x : Int),.int .i64 (γ x : Int)]]
def zrF (n s : Nat) : Value := if s = n then .int .i64 (-1) else .int .i64 ((n - 1 - s : Nat) : Int)
theorem back18_in {S : Nat → Prop} {B l m Bc n : Nat} {lv : Value} {ρ γ : Nat → Nat} {W : World} (hm : 1 ≤ m) (J : Nat → World → Prop)
  (hbox : W.cell? ⟨Bc,0,none⟩ = some lv) (hBc : Bc < B) (hSc : ¬ S Bc) (hn : n ≤ 64) (hlv : (n = 0 ∧ lv = .slice none 0 0) ∨ ∃ Lb cap,lv = .slice (some ⟨Lb,0,none⟩) n cap ∧ n ≤ cap ∧ Lb < B ∧ ¬ S Lb ∧ ∀ i,i < n → W.cell? ⟨Lb,i * 2,none⟩ = some (.int .i64 (ρ i : Int)) ∧ W.cell? ⟨Lb,i * 2 + 1,none⟩ = some (.int .i64 (γ i : Int))) (h0 : J 0 W)
  (hY : ∀ s X,J s X → s < n → YieldAt Fence.wide (m - 1) Tryz.prog l (zAH ρ γ (n - 1 - s)) X fun e Y => e = .returned (.bool true) ∧ J (s + 1) Y ∧ KpL S B X Y) :
  CallsIn Fence.wide m Tryz.prog 92 #[.func (.yield l) #[] #[],.pointer (some ⟨Bc,0,none⟩)] W fun e Y => (∃ v,e = .returned v) ∧ J n Y := by
 obtain ⟨a,cap,rfl,hcap,hel⟩ : ∃ a cap,lv = .slice a n cap ∧ n ≤ cap ∧ ∀ i,i < n → ∃ Lb,a = some ⟨Lb,0,none⟩ ∧ Lb < B ∧ ¬ S Lb ∧ W.cell? ⟨Lb,i * 2,none⟩ = some (.int .i64 (ρ i : Int)) ∧ W.cell? ⟨Lb,i * 2 + 1,none⟩ = some (.int .i64 (γ i : Int)) := by
  rcases hlv with ⟨rfl,rfl⟩ | ⟨Lb,cap,rfl,h1,h2,h3,h4⟩
  ·exact ⟨none,0,rfl,Nat.le_refl _,fun i hi => by omega⟩
  ·exact ⟨_,cap,rfl,h1,fun i hi => ⟨Lb,rfl,h2,h3,h4 i hi⟩⟩
 have HC := hid hel;have H0 := hid h0;have HY := hid hY;have HSC := hid hSc;have HBX := hid hbox;have HBC := hid hBc;clear hel h0 hY hlv hSc hBc;refine callsIn_of_wp Tryz.func92 rfl trivial ?_ rfl;simp only [Tryz.ntmps92,List.size_toArray,List.length_cons,List.length_nil,Nat.reduceAdd,Nat.reduceSub,Array.replicate_succ,Array.replicate_zero,List.push_toArray,List.append_toArray,List.nil_append,List.cons_append];have hwn : IntKind.i64.wrap ((n : Int) - 1) = (n : Int) - 1 := zZA (by omega) (by omega);gi_wp2_with fail
 gi_loopw [3] (fun i wr => ∃ t : Nat,t ≤ n ∧ i = zrF n t ∧ J t wr ∧ KpL S B W wr)
  (fun i _ => ((intOf i) + 1).toNat)
 case atStart =>
  refine ⟨0,Nat.zero_le _,?_,H0.out,KpL.refl _ _ _⟩;unfold zrF
  by_cases e : n = 0
  ·subst e;simp
  ·rw [if_neg (by omega)]
   congr 1
   omega
 case round =>
  obtain ⟨t,htn,rfl,hj,hk⟩ := hrel;have JJ := hid hj;have KK := hid hk;have hbox' := KK.out.cell HBX.out HBC.out HSC.out;clear hj hk H0 hbox
  by_cases hlt : t < n
  ·obtain ⟨j,hj⟩ : ∃ j,n - 1 - t = j := ⟨_,rfl⟩
   have hjl : j < n := by omega
   have hjl' : (j : Int) < (n : Int) := by omega
   obtain ⟨Lb,rfl,h1,h2,h3,h4⟩ := HC.out j hjl;have c0 := KK.out.cell h3 h1 h2;have c1 := KK.out.cell h4 h1 h2;have ei : zrF n t = .int .i64 (j : Int) := by unfold zrF;rw [if_neg (by omega),hj]
   have en : (Value.int .i64 ((j : Int) - 1)) = zrF n (t + 1) := by
    unfold zrF
    by_cases q : t + 1 = n
    ·rw [if_pos q];congr 1;omega
    ·rw [if_neg q];congr 1;omega
   obtain ⟨fn,tmps,assign,body,hy,hR⟩ := HY.out t wr JJ.out hlt;dsimp only [zAH] at hy;rw [hj] at hy;rw [ei];have EN := hid en;have hjw : IntKind.i64.wrap ((j : Int) - 1) = (j : Int) - 1 := zZA (by omega) (by omega);clear en ei h1 h2 h3 h4 hj JJ;gi_wp2;refine hR.mono ?_;rintro e W4 ⟨rfl,hj4,hk4⟩;gi_wp2;go_roundw
   case rel => exact ⟨t + 1,by omega,EN.out,hj4,KK.out.trans hk4⟩
   case measure => simp [intOf]
  ·obtain rfl : t = n := by omega
   rw [show zrF t t = .int .i64 (-1) from if_pos rfl];gi_wp2;go_end0;exact ⟨⟨_,rfl⟩,JJ.out⟩
theorem back18_new (n : Nat) (a : Option Addr) (len cap : Nat) (w : World) :
  CallsIn Fence.wide n Tryz.prog 71 #[.slice a len cap] w fun e w' => e = .returned (.func (.func 92) #[] #[.pointer (some ⟨w.heap.size,0,none⟩)]) ∧ w' = w.alloc (.cells #[.slice a len cap] 61) := by
 refine callsIn_of_wp Tryz.func71 rfl trivial ?_ rfl;simp only [Tryz.ntmps71,List.size_toArray,List.length_cons,List.length_nil,Nat.reduceAdd,Nat.reduceSub,Array.replicate_succ,Array.replicate_zero,List.push_toArray,List.append_toArray,List.nil_append,List.cons_append];gi_wp2;go_ret;exact ⟨rfl,rfl⟩
theorem Rw17.kc18 {w w' : World} {g n k : Nat} {F : Nat → Int} (h : Rw17 w g n F k) (hk : Kc w w') : Rw17 w' g n F k := by
 obtain ⟨ps,h1,h2⟩ := h;exact ⟨ps,hk.arr h1,h2.kc hk⟩
theorem Wk18.kc18 {B bs Bl Bh Ba m n r kw : Nat} {w w' : World} {lv sv : Value} {ρ γ gs : Nat → Nat} {X : Nat → Nat → Int} (h : Wk18 B w bs Bl Bh Ba lv sv m n r ρ γ gs X kw) (hk : Kc w w') : Wk18 B w' bs Bl Bh Ba lv sv m n r ρ γ gs X kw := by
 refine ⟨hk.cel h.1,hk.cel h.2.1,hk.cel h.2.2.1,hk.cel h.2.2.2.1,h.2.2.2.2.1.cel fun _ _ d => hk.cel d,?_⟩;obtain ⟨h1,h4,h5⟩ := h.2.2.2.2.2;refine ⟨?_,h4,fun i hi => ⟨(h5 i hi).1,(h5 i hi).2.kc18 hk⟩⟩;rcases h1 with h1 | ⟨h0,Lb,cap,t,e,e0,e1,e2⟩
 ·exact .inl h1
 ·exact .inr ⟨h0,Lb,cap,t,e,e0,e1,hk.cel e2⟩
def zOH (B : Nat) (w : World) (bs Bl Bh Ba : Nat) (lv sv : Value) (m n r : Nat) (ρ γ gs : Nat → Nat) (A : Nat → Nat → Int) (kw K T bp : Nat) (s : Nat) (W : World) : Prop :=
 ∃ X b,Wk18 B W bs Bl Bh Ba lv sv m n r ρ γ gs X kw ∧ Lw18 m n K r ρ γ X A T (r - s) b ∧ (r - s < r → r ≤ b) ∧ b ≤ r + 1 ∧ s ≤ r ∧ Cel W bp 83 [.pointer (some ⟨bs,0,none⟩)] ∧ Touch (tl18 gs m) w W
theorem Touch.grown18 {S : Nat → Prop} {w0 w w' : World} {row : Option Nat} (h : Touch S w0 w) (hg : w.grownBy w' row) (hr : ∀ k,row = some k → w0.heap.size ≤ k) : Touch S w0 w' := h.grown hg fun k e => .inl (hr k e)
theorem zOH.own {B bs Bl Bh Ba m n r kw K T bp N : Nat} {lv sv : Value} {ρ γ gs : Nat → Nat} {A : Nat → Nat → Int} {w : World} (hN : w.heap.size ≤ N) : OwnFrom N (zOH B w bs Bl Bh Ba lv sv m n r ρ γ gs A kw K T bp) := fun s W W' row hs hg hr => by
 obtain ⟨X,b,h1,h2,h3,h4,h5,h6,h7⟩ := hs;have hk := zjC hg (fun r e => (hr r e).2);exact ⟨X,b,h1.kc18 hk,h2,h3,h4,h5,hk.cel h6,h7.grown18 hg fun k e => Nat.le_trans hN (hr k e).1⟩
def zhH (B : Nat) (W : World) (bs Bl Bh Ba : Nat) (lv sv : Value) (m n r : Nat) (ρ γ gs : Nat → Nat) (A : Nat → Nat → Int) (kw K T bp bq a : Nat) (s : Value) (wr : World) : Prop :=
 ∃ (t : Nat) (X : Nat → Nat → Int),s = .int .i64 (t : Int) ∧ t ≤ r - (a + 1) ∧ Wk18 B wr bs Bl Bh Ba lv sv m n r ρ γ gs X kw ∧ Lw18 m n K r ρ γ X A T a (a + 1 + t) ∧ Cel wr bp 83 [.pointer (some ⟨bs,0,none⟩)] ∧ Cel wr bq 65 [.int .i64 (ρ a : Int),.int .i64 (γ a : Int)] ∧ Touch (tl18 gs m) W wr
def zfI (B : Nat) (w : World) (bs Bl Bh Ba : Nat) (lv sv : Value) (m n r : Nat) (ρ γ gs : Nat → Nat) (A : Nat → Nat → Int) (kw K T : Nat) (e : Ending) (w' : World) : Prop :=
 ∃ X,e = .returned (.tuple #[]) ∧ Wk18 B w' bs Bl Bh Ba lv sv m n r ρ γ gs X kw ∧ Hb18 m n K r ρ γ X A ∧ Touch (tl18 gs m) w w'
end Go.Proofs.YtmnecbniappnaaaGreat
