/-
 QOf11ToDz12: Of11, Touch, Pr12, Dz12, joined.
-/
import Derived.Test.YtbcgggadelnaaaaGreatQChkN9ToLn11
import Derived.Test.YtbcgggadelnaaaaGreatQCarryToTimes
import Derived.Below

set_option maxRecDepth 100000
set_option maxHeartbeats 6400000
set_option linter.unusedVariables false
set_option linter.unusedSimpArgs false
namespace Go.Proofs.YtbcgggadelnaaaaGreat
open Go.RowKit Go.Shelf
attribute [local go_sem] Oper.semAt_some
def zhG (o : Oper) : Bool := match o.op with
 | .defer _ => false
 | _ => true
theorem hno_of11 {ops : Array Oper} (h : ops.all zhG = true) : ∀ (i : Nat) (o : Oper),ops[i]? = some o → ∀ c,o.op ≠ .defer c := fun i o ho c e => by
 have hm := Array.mem_of_getElem? ho;have := (Array.all_eq_true_iff_forall_mem.1 h) o hm;unfold zhG at this;rw [e] at this;cases this
theorem zBD {P : Program} {l n : Nat} {ops : Array Oper} {Q : Exit → Act → World → Prop} (hL : ¬ LetsOut Q) :
  ∀ (os : List Oper) (a : Act) (w : World),(∀ o ∈ os,∀ c,o.op ≠ .defer c) → wpList P ops Q os a w → wpListIn (Fence.wide.inRound l) n P ops Q os a w
 | [],a,w,_,h => h
 | o :: rest,a,w,hno,h => by
  unfold wpList at h;unfold wpListIn
  by_cases hw : Region.wanted o (yielded ops a.tmps) = true
  ·rw [if_pos hw] at h ⊢
   rcases h with h | ⟨_,h⟩
   ·exact Oper.wpIn_mono (fun a w => zBD hL rest a w (fun o ho => hno o (by simp [ho]))) (op_round (hno o (by simp)) h)
   ·exact absurd h hL
  ·rw [if_neg hw] at h ⊢
   exact ⟨fun _ _ => trivial,zBD hL rest _ _ (fun o ho => hno o (by simp [ho])) h⟩
theorem region_roundL {P : Program} {l n id : Nat} {ops : Array Oper} {Q : Exit → Act → World → Prop} {a : Act} {w : World} (hno : ∀ (i : Nat) (o : Oper),ops[i]? = some o → ∀ c,o.op ≠ .defer c) (hL : ¬ LetsOut Q)
  (h : wpList P ops Q ops.toList a w) : (Code.region id ops false).wpIn (Fence.wide.inRound l) n P Q a w :=
 wpIn_region_list (zBD hL _ _ _ (fun o ho c => by
  obtain ⟨i,hi,e⟩ := List.getElem_of_mem ho;exact hno i o (by rw [← e];simp) c) h)
def Kc (X Y : World) : Prop := X.heap.size ≤ Y.heap.size ∧ ∀ (b : Nat) (o : Obj),X.heap[b]? = some o → o.isCells = true → Y.heap[b]? = some o
theorem zjC {W W' : World} {row : Option Nat} (hg : W.grownBy W' row) (hr : ∀ r,row = some r → ∃ o : Obj,W.heap[r]? = some o ∧ o.isCells = false) : Kc W W' := ⟨hg.size,fun b o h1 h2 => (grownBy_keeps_cells hg hr h1 h2).trans h1⟩
theorem Kc.cel {X Y : World} (h : Kc X Y) {b : Nat} {T : TypeId} {L : List Value} (d : Cel X b T L) : Cel Y b T L := h.2 b _ d rfl
theorem Kc.arr {X Y : World} (h : Kc X Y) {g : Nat} {ps : List (Value × Value)} (d : Arr X g ps) : Arr Y g ps := ⟨h.cel d.1,d.2⟩
theorem Zm.kc {B k : Nat} {w w' : World} {v : Value} {z : Int} (h : Zm B w v z k) (hk : Kc w w') : Zm B w' v z k := by
 obtain ⟨n1,zs,a,c,e,hm,rest⟩ := h;refine ⟨n1,zs,a,c,e,?_,rest⟩;obtain ⟨hw,h | ⟨g,r,cap,h1,h2,h3,h4,h5,h6⟩⟩ := hm
 ·exact ⟨hw,.inl h⟩
 ·exact ⟨hw,.inr ⟨g,r,cap,h1,h2,h3,h4,h5,hk.2 g _ h6 rfl⟩⟩
theorem Zms.kc {w w' : World} {ps : List (Value × Value)} {zs : List Int} {k : Nat} (h : Zms w ps zs k) (hk : Kc w w') : Zms w' ps zs k := ⟨h.1,fun j p z hp hz => (h.2 j p z hp hz).kc hk⟩
def ShtM (B : Nat) (w : World) (lv : Value) (c : Nat) (gs : List Nat) (m : List (List Int)) (k : Nat) : Prop :=
 w.ownsRow B 22 1 lv gs.length (gs.map (rowv c)) ∧ Ones gs ∧ gs.length = m.length ∧ (∀ g ∈ gs,B ≤ g) ∧ Wide c m ∧ ∀ (j g : Nat),gs[j]? = some g → ∃ ps,Arr w g ps ∧ Zms w ps (zcB m j) k
theorem ShtM.kc {B c k : Nat} {w w' : World} {lv : Value} {gs : List Nat} {m : List (List Int)} (h : ShtM B w lv c gs m k) (hk : Kc w w') : ShtM B w' lv c gs m k := by
 obtain ⟨h1,h2,h3,h4,h5,h6⟩ := h;refine ⟨?_,h2,h3,h4,h5,fun j g hg => ?_⟩
 ·obtain ⟨q1,q2 | ⟨g,cap,cur,q2,q3,q4,q5⟩⟩ := h1
  ·exact ⟨q1,.inl q2⟩
  ·exact ⟨q1,.inr ⟨g,cap,cur,q2,q3,hk.2 g _ q4 rfl,q5⟩⟩
 ·obtain ⟨ps,p1,p2⟩ := h6 j g hg
  exact ⟨ps,hk.arr p1,p2.kc hk⟩
theorem kc_below {X Y : World} (h : Below X.heap.size X Y) : Kc X Y := ⟨h.size,fun b o e _ => (h.block b (Array.getElem?_eq_some_iff.1 e).1).trans e⟩
theorem ShtM.nil (B : Nat) (w : World) (c k : Nat) : ShtM B w (.slice none 0 0) c [] [] k := ⟨World.ownsRow_nil _ _ _ _,fun i j g h => by simp at h,rfl,fun g h => by simp at h,fun r h => by simp at h,fun j g h => by simp at h⟩
theorem ShtM.off {B c k b i : Nat} {T : TypeId} {L : List Value} {u : Value} {w : World} {lv : Value} {gs : List Nat} {m : List (List Int)} (h : ShtM B w lv c gs m k) (d : Cel w b T L) (h1 : T ≠ 22) (h2 : T ≠ 51) (h3 : T ≠ 58) : ShtM B (w.setCell ⟨b,i,none⟩ u) lv c gs m k := by
 obtain ⟨q1,q2,q3,q4,q5,q6⟩ := h;refine ⟨zHF q1 (fun g hg hlt => ?_),q2,q3,q4,q5,fun j g hg => ?_⟩
 ·refine Below.heap_setCell w _ u g (fun e => ?_)
  have e' : g = b := by simpa using e
  subst e';obtain ⟨_,⟨r2,_⟩ | ⟨g',cap,cur,r2,r3,r4,r5⟩⟩ := q1
  ·rw [r2] at hg;cases hg
  ·rw [r2] at hg
   simp only [Value.ownBlock,Option.some.injEq] at hg;subst hg;have := r4.symm.trans (show w.heap[_]? = _ from d);simp at this;exact h1 this.2.symm
 ·obtain ⟨ps,p1,p2⟩ := q6 j g hg
  have hne : b ≠ g := fun e => by
   subst e;have := (show w.heap[b]? = _ from p1.1).symm.trans (show w.heap[b]? = _ from d);simp at this;exact h2 this.2.symm
  exact ⟨ps,⟨p1.1.ne hne,p1.2⟩,p2.ty (Ty.set d) (fun e => h3 e.symm)⟩
theorem AtL.own {k B : Nat} {m : List (List Int)} (s : Nat × List Nat) (x : Nat × Nat) : OwnFrom B (fun (_ : Unit) W => AtL k m s x W) := fun _ W W' row hs hg hr => by
 obtain ⟨h1,h2,h3,h4,h5,ps,h6,h7⟩ := hs;have hk := zjC hg (fun r e => (hr r e).2);exact ⟨h1,h2,h3,Nat.le_trans h4 hg.size,h5,ps,hk.arr h6,h7.kc hk⟩
theorem ShtM.lt {B c k : Nat} {w : World} {lv : Value} {gs : List Nat} {m : List (List Int)} (h : ShtM B w lv c gs m k) : ∀ g ∈ gs,g < w.heap.size := fun g hg => by
 obtain ⟨j,hj,e⟩ := List.getElem_of_mem hg;obtain ⟨ps,p1,_⟩ := h.2.2.2.2.2 j g (by rw [List.getElem?_eq_getElem hj,e]);exact p1.1.blk
theorem owns_mono11 {w : World} {B B' : Nat} {e : TypeId} {size : Nat} {v : Value} {n : Nat} {xs : List Value} (h : w.ownsRow B e size v n xs) (hb : B' ≤ B) : w.ownsRow B' e size v n xs := by
 obtain ⟨q1,q2 | ⟨g,cap,cur,q2,q3,q4⟩⟩ := h
 ·exact ⟨q1,.inl q2⟩
 ·exact ⟨q1,.inr ⟨g,cap,cur,q2,Nat.le_trans hb q3,q4⟩⟩
end Go.Proofs.YtbcgggadelnaaaaGreat
namespace Go.Proofs.YtbcgggadelnaaaaGreat
open Go.RowKit
structure Touch (S : Nat → Prop) (w w' : World) : Prop where
 os : w'.os = w.os
 tape : w'.tape = w.tape
 output : w'.output = w.output
 size : w.heap.size ≤ w'.heap.size
 block : ∀ k,k < w.heap.size → ¬ S k → w'.heap[k]? = w.heap[k]?
theorem Touch.refl (S : Nat → Prop) (w : World) : Touch S w w := ⟨rfl,rfl,rfl,Nat.le_refl _,fun _ _ _ => rfl⟩
theorem Touch.trans {S : Nat → Prop} {a b c : World} (h : Touch S a b) (k : Touch S b c) : Touch S a c :=
 ⟨k.os.trans h.os,k.tape.trans h.tape,k.output.trans h.output,Nat.le_trans h.size k.size,fun i hi hS => (k.block i (Nat.lt_of_lt_of_le hi h.size) hS).trans (h.block i hi hS)⟩
theorem Touch.ofBelow {S : Nat → Prop} {w w' : World} (h : Below w.heap.size w w') : Touch S w w' := ⟨h.os,h.tape,h.output,h.size,fun k hk _ => h.block k hk⟩
theorem Touch.drewN {S : Nat → Prop} {w0 w : World} (h : Touch S w0 w) (n : Nat) : Touch S w0 (w.drewN n) := ⟨h.os,h.tape,h.output,h.size,h.block⟩
theorem Touch.setCell {S : Nat → Prop} {w0 w : World} (h : Touch S w0 w) {g : Nat} (hg : w0.heap.size ≤ g ∨ S g) (j : Nat) (x : Value) : Touch S w0 (w.setCell ⟨g,j,none⟩ x) := by
 have b := (Below.refl g w).setCell (p := ⟨g,j,none⟩) (Nat.le_refl _) x;refine ⟨b.os.trans h.os,b.tape.trans h.tape,b.output.trans h.output,Nat.le_trans h.size b.size,fun k hk hS => ?_⟩;rw [Below.heap_setCell w _ x k (fun e => by subst e;rcases hg with q | q;(· exact absurd hk (by omega));exact hS q)];exact h.block k hk hS
theorem Touch.grown {S : Nat → Prop} {w0 w w' : World} {row : Option Nat} (h : Touch S w0 w) (hg : w.grownBy w' row) (hr : ∀ k,row = some k → w0.heap.size ≤ k ∨ S k) : Touch S w0 w' :=
 ⟨hg.os.trans h.os,hg.tape.trans h.tape,hg.output.trans h.output,Nat.le_trans h.size hg.size,fun k hk hS => by
  rw [hg.block k (Nat.lt_of_lt_of_le hk h.size) (fun e => by rcases hr k e.symm with q | q;(· omega);exact hS q)];exact h.block k hk hS⟩
end Go.Proofs.YtbcgggadelnaaaaGreat
namespace Go.Proofs.YtbcgggadelnaaaaGreat
theorem zJD {α β : Type} {f : α → β} : ∀ {l : List α},l.Nodup → (∀ x ∈ l,∀ y ∈ l,f x = f y → x = y) → (l.map f).Nodup
 | [],_,_ => by simp
 | a :: l,h,hi => by
  rw [List.nodup_cons] at h;rw [List.map_cons,List.nodup_cons];refine ⟨fun hm => ?_,zJD h.2 (fun x hx y hy => hi x (by simp [hx]) y (by simp [hy]))⟩;obtain ⟨b,hb,e⟩ := List.mem_map.1 hm;have := hi b (by simp [hb]) a (by simp) e;exact h.1 (this ▸ hb)
def su : Nat → (Nat → Int) → Int
 | 0,_ => 0
 | n + 1,f => su n f + f n
theorem zJA : ∀ {n : Nat} {f g : Nat → Int},(∀ k,k < n → f k = g k) → su n f = su n g
 | 0,_,_,_ => rfl
 | n + 1,f,g,h => by
  show su n f + f n = su n g + g n
  rw [zJA (fun k hk => h k (by omega)),h n (by omega)]
theorem zPC : ∀ {n : Nat} {f : Nat → Int},(∀ k,k < n → f k = 0) → su n f = 0
 | 0,_,_ => rfl
 | n + 1,f,h => by
  show su n f + f n = 0
  rw [zPC (fun k hk => h k (by omega)),h n (by omega)];rfl
theorem zeC : ∀ (n : Nat) (f g : Nat → Int),su n (fun k => f k + g k) = su n f + su n g
 | 0,_,_ => rfl
 | n + 1,f,g => by
  show su n (fun k => f k + g k) + (f n + g n) = su n f + f n + (su n g + g n)
  rw [zeC n f g];omega
theorem znA : ∀ (n : Nat) (c : Int) (f : Nat → Int),su n (fun k => c * f k) = c * su n f
 | 0,c,_ => by show (0 : Int) = c * 0;simp
 | n + 1,c,f => by
  show su n (fun k => c * f k) + c * f n = c * (su n f + f n)
  rw [znA n c f,Int.mul_add]
theorem zeD (n : Nat) (c : Int) (f : Nat → Int) : su n (fun k => f k * c) = su n f * c := by
 rw [Int.mul_comm,← znA];exact zJA fun k _ => Int.mul_comm _ _
theorem zwC : ∀ (n m : Nat) (f : Nat → Nat → Int),su n (fun i => su m (fun j => f i j)) = su m (fun j => su n (fun i => f i j))
 | 0,m,f => by
  show (0 : Int) = _
  exact (zPC fun k _ => rfl).symm
 | n + 1,m,f => by
  show su n (fun i => su m (fun j => f i j)) + su m (fun j => f n j) = su m (fun j => su n (fun i => f i j) + f n j)
  rw [zeC,zwC n m f]
theorem zaB : ∀ {n i : Nat} {f : Nat → Int},i < n → (∀ k,k < n → k ≠ i → f k = 0) → su n f = f i
 | 0,i,f,h,_ => by omega
 | n + 1,i,f,h,hz => by
  show su n f + f n = f i
  by_cases hi : i = n
  ·subst hi
   rw [zPC (fun k hk => hz k (by omega) (by omega))];omega
  ·rw [zaB (by omega : i < n) (fun k hk hne => hz k (by omega) hne),hz n (by omega) (by omega)];omega
theorem zaG : ∀ {n i : Nat} {f : Nat → Int},i + 1 < n → (∀ k,k < n → k ≠ i → k ≠ i + 1 → f k = 0) → f i + f (i + 1) = 0 → su n f = 0
 | 0,i,f,h,_,_ => by omega
 | n + 1,i,f,h,hz,hc => by
  show su n f + f n = 0
  by_cases hi : i + 1 = n
  ·subst hi
   rw [zaB (by omega : i < i + 1) (fun k hk hne => hz k (by omega) hne (by omega))];exact hc
  ·rw [zaG (by omega : i + 1 < n) (fun k hk h1 h2 => hz k (by omega) h1 h2) hc,hz n (by omega) (by omega) (by omega)];rfl
def skd (i k : Nat) : Nat := if k < i then k else k + 1
def sgd : Nat → Int
 | 0 => 1
 | n + 1 => - sgd n
def dlz (i j : Nat) : Int := if i = j then 1 else 0
def stR (A : Nat → Nat → Int) (i : Nat) (u : Nat → Int) : Nat → Nat → Int := fun r c => if r = i then u c else A r c
def det : Nat → (Nat → Nat → Int) → Int
 | 0,_ => 1
 | n + 1,A => su (n + 1) fun i => sgd i * A i 0 * det n (fun r c => A (skd i r) (c + 1))
theorem zQA : ∀ {n : Nat} {A B : Nat → Nat → Int},(∀ i j,i < n → j < n → A i j = B i j) → det n A = det n B
 | 0,_,_,_ => rfl
 | n + 1,A,B,h => zJA fun i hi => by
  show sgd i * A i 0 * det n (fun r c => A (skd i r) (c + 1)) = sgd i * B i 0 * det n (fun r c => B (skd i r) (c + 1))
  rw [h i 0 hi (by omega),zQA (A := fun r c => A (skd i r) (c + 1)) (B := fun r c => B (skd i r) (c + 1)) fun r c hr hc => h _ _ (by unfold skd;split <;> omega) (by omega)]
structure Alt (n : Nat) (F : (Nat → Nat → Int) → Int) : Prop where
 congr : ∀ A B : Nat → Nat → Int,(∀ i j,i < n → j < n → A i j = B i j) → F A = F B
 lin : ∀ (A : Nat → Nat → Int) (i : Nat) (u v : Nat → Int) (x y : Int),i < n → F (stR A i fun j => x * u j + y * v j) = x * F (stR A i u) + y * F (stR A i v)
 alt : ∀ (A : Nat → Nat → Int) (i : Nat),i + 1 < n → (∀ j,j < n → A i j = A (i + 1) j) → F A = 0
theorem zYB : ∀ n : Nat,Alt n (det n)
 | 0 => ⟨fun _ _ _ => rfl,fun _ i _ _ _ _ h => by omega,fun _ i h => by omega⟩
 | n + 1 => by
  have IH := zYB n;refine ⟨fun A B h => zQA h,fun A a u v x y ha => ?_,fun A a ha he => ?_⟩
  ·show su (n + 1) _ = x * su (n + 1) _ + y * su (n + 1) _
   rw [← znA,← znA,← zeC];refine zJA fun i hi => ?_
   by_cases hia : i = a
   ·subst hia
    have e : ∀ z : Nat → Int,det n (fun r c => stR A i z (skd i r) (c + 1)) = det n (fun r c => A (skd i r) (c + 1)) := fun z => zQA fun r c _ _ => if_neg (by unfold skd;split <;> omega)
    have e0 : ∀ z : Nat → Int,stR A i z i 0 = z 0 := fun z => if_pos rfl
    simp only [e,e0]
    grind
   ·have e0 : ∀ z : Nat → Int,stR A a z i 0 = A i 0 := fun z => if_neg hia
    obtain ⟨b,hb,hbn⟩ : ∃ b,skd i b = a ∧ b < n := ⟨if a < i then a else a - 1,by unfold skd;grind,by split <;> omega⟩
    have e : ∀ z : Nat → Int,det n (fun r c => stR A a z (skd i r) (c + 1)) = det n (stR (fun r c => A (skd i r) (c + 1)) b fun c => z (c + 1)) := fun z => zQA fun r c _ _ => by
     show (if skd i r = a then z (c + 1) else A (skd i r) (c + 1)) = if r = b then z (c + 1) else A (skd i r) (c + 1)
     by_cases hrb : r = b
     ·rw [if_pos (by rw [hrb];exact hb),if_pos hrb]
     ·rw [if_neg (by rw [← hb];unfold skd;grind),if_neg hrb]
    simp only [e,e0];rw [IH.lin _ b _ _ x y hbn]
    grind
  ·refine zaG (i := a) ha (fun i hi h1 h2 => ?_) ?_
   ·have h0 : det n (fun r c => A (skd i r) (c + 1)) = 0 := by
     refine IH.alt _ (if i < a then a - 1 else a) (by split <;> omega) fun j hj => ?_
     have e1 : skd i (if i < a then a - 1 else a) = a := by unfold skd;split <;> split <;> omega
     have e2 : skd i ((if i < a then a - 1 else a) + 1) = a + 1 := by unfold skd;split <;> split <;> omega
     show A (skd i (if i < a then a - 1 else a)) (j + 1) = A (skd i ((if i < a then a - 1 else a) + 1)) (j + 1)
     rw [e1,e2];exact he _ (by omega)
    rw [h0,Int.mul_zero]
   ·have e : det n (fun r c => A (skd a r) (c + 1)) = det n (fun r c => A (skd (a + 1) r) (c + 1)) := zQA fun r c hr hc => by
     by_cases hra : r = a
     ·subst hra
      have e1 : skd r r = r + 1 := by unfold skd;split <;> omega
      have e2 : skd (r + 1) r = r := by unfold skd;split <;> omega
      show A (skd r r) (c + 1) = A (skd (r + 1) r) (c + 1)
      rw [e1,e2];exact (he _ (by omega)).symm
     ·have e1 : skd a r = skd (a + 1) r := by unfold skd;split <;> split <;> omega
      show A (skd a r) (c + 1) = A (skd (a + 1) r) (c + 1)
      rw [e1]
    rw [e,he 0 (by omega)]
    show _ + - sgd a * _ * _ = 0
    grind
theorem zND (A : Nat → Nat → Int) (i : Nat) : stR A i (A i) = A := by
 funext r c;unfold stR;split <;> simp_all
theorem zxC {A : Nat → Nat → Int} {i k : Nat} (h : i ≠ k) (u v : Nat → Int) : stR (stR A i u) k v = stR (stR A k v) i u := by
 funext r c;unfold stR;split <;> split <;> simp_all
theorem zEB (A : Nat → Nat → Int) (i : Nat) (u : Nat → Int) : stR A i u i = u := by funext c;simp [stR]
theorem zoA (A : Nat → Nat → Int) {i k : Nat} (h : k ≠ i) (u : Nat → Int) : stR A i u k = A k := by funext c;simp [stR,h]
section
variable {n : Nat} {F : (Nat → Nat → Int) → Int}
theorem Alt.add (h : Alt n F) {A : Nat → Nat → Int} {i : Nat} (hi : i < n) (u v : Nat → Int) : F (stR A i fun j => u j + v j) = F (stR A i u) + F (stR A i v) := by
 have := h.lin A i u v 1 1 hi
 simpa using this
theorem Alt.mul (h : Alt n F) {A : Nat → Nat → Int} {i : Nat} (hi : i < n) (x : Int) (u : Nat → Int) : F (stR A i fun j => x * u j) = x * F (stR A i u) := by
 have := h.lin A i u u x 0 hi
 simpa using this
theorem Alt.swap_of (h : Alt n F) {A : Nat → Nat → Int} {i k : Nat} (hi : i < n) (hk : k < n) (hik : i ≠ k)
  (h0 : ∀ u : Nat → Int,F (stR (stR A i u) k u) = 0) : F (stR (stR A i (A k)) k (A i)) = - F A := by
 have h1 := h0 fun j => A i j + A k j
 rw [h.add hk,zxC hik,zxC hik,h.add hi,h.add hi,zxC (Ne.symm hik),zxC (Ne.symm hik),zxC (Ne.symm hik),zxC (Ne.symm hik)] at h1;have h2 := h0 (A i);have h3 := h0 (A k);rw [h2,h3] at h1;rw [zND A i,zND A k] at h1;omega
theorem Alt.swap1 (h : Alt n F) {A : Nat → Nat → Int} {i : Nat} (hi : i + 1 < n) : F (stR (stR A i (A (i + 1))) (i + 1) (A i)) = - F A :=
 h.swap_of (by omega) hi (by omega) fun u => h.alt _ i hi fun j _ => by rw [zEB,zoA _ (by omega),zEB]
theorem Alt.equal (h : Alt n F) : ∀ (d : Nat) {A : Nat → Nat → Int} {i : Nat},i + d + 1 < n → (∀ j,j < n → A i j = A (i + d + 1) j) → F A = 0
 | 0,A,i,hi,he => h.alt A i hi he
 | d + 1,A,i,hi,he => by
  have h1 := h.swap1 (A := A) (i := i + d + 1) (by omega);have h2 := Alt.equal h d (A := stR (stR A (i + d + 1) (A (i + d + 1 + 1))) (i + d + 1 + 1) (A (i + d + 1))) (i := i) (by omega) (fun j hj => by
   rw [zoA _ (by omega),zoA _ (by omega),zoA _ (by omega),zEB];exact he j hj)
  rw [h2] at h1;omega
theorem Alt.same (h : Alt n F) {A : Nat → Nat → Int} {i k : Nat} (hi : i < n) (hk : k < n) (hik : i ≠ k) (he : ∀ j,j < n → A i j = A k j) : F A = 0 := by
 rcases Nat.lt_or_gt_of_ne hik with hl | hl
 ·obtain ⟨d,rfl⟩ : ∃ d,k = i + d + 1 := ⟨k - i - 1,by omega⟩
  exact h.equal d hk he
 ·obtain ⟨d,rfl⟩ : ∃ d,i = k + d + 1 := ⟨i - k - 1,by omega⟩
  exact h.equal d hi fun j hj => (he j hj).symm
theorem Alt.swap (h : Alt n F) {A : Nat → Nat → Int} {i k : Nat} (hi : i < n) (hk : k < n) (hik : i ≠ k) : F (stR (stR A i (A k)) k (A i)) = - F A :=
 h.swap_of hi hk hik fun u => h.same hi hk hik fun j _ => by rw [zEB,zoA _ hik,zEB]
theorem Alt.plus (h : Alt n F) {A : Nat → Nat → Int} {i k : Nat} (hi : i < n) (hk : k < n) (hik : i ≠ k) (t : Int) : F (stR A i fun j => A i j + t * A k j) = F A := by
 rw [h.add hi,h.mul hi,zND,h.same (A := stR A i (A k)) hi hk hik fun j _ => by rw [zEB,zoA _ (Ne.symm hik)]];omega
theorem Alt.sum (h : Alt n F) {A : Nat → Nat → Int} {i : Nat} (hi : i < n) (x : Nat → Int) (U : Nat → Nat → Int) : ∀ m : Nat,F (stR A i fun j => su m fun k => x k * U k j) = su m fun k => x k * F (stR A i (U k))
 | 0 => by
  have := h.mul (A := A) hi 0 (fun _ => 0)
  simpa [su] using this
 | m + 1 => by
  show F (stR A i fun j => (su m fun k => x k * U k j) + x m * U m j) = (su m fun k => x k * F (stR A i (U k))) + x m * F (stR A i (U m))
  rw [h.add hi,Alt.sum h hi x U m,h.mul hi]
end
end Go.Proofs.YtbcgggadelnaaaaGreat
