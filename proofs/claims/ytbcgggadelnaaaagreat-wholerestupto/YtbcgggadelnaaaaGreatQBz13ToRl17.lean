/-
 QBz13ToRl17: Bz13, St13, Sr13, Rl17, joined.
-/
import Derived.Test.YtbcgggadelnaaaaGreatQDz12ToDu12
import Derived.Test.YtbcgggadelnaaaaGreatQEachM11ToPr12

set_option maxRecDepth 100000
set_option maxHeartbeats 6400000
set_option linter.unusedVariables false
set_option linter.unusedSimpArgs false
namespace Go.Proofs.YtbcgggadelnaaaaGreat
theorem det_samecol {n a b : Nat} (A : Nat → Nat → Int) (ha : a < n) (hb : b < n) (hab : a ≠ b) (h : ∀ i,i < n → A i a = A i b) : det n A = 0 := by
 rw [← zBC];exact (zTB n).same ha hb hab fun j hj => h j hj
def bor (k : Nat) (R : Nat → Nat) (r : Nat) : Nat → Nat := fun a => if a < k then R a else r
def mi (A : Nat → Nat → Int) (R C : Nat → Nat) (k r j : Nat) : Int := det (k + 1) fun a b => A (bor k R r a) (bor k C j b)
def dd (A : Nat → Nat → Int) (R C : Nat → Nat) (k : Nat) : Int := det k fun a b => A (R a) (C b)
theorem bor_lt {k a r : Nat} {R : Nat → Nat} (h : a < k) : bor k R r a = R a := if_pos h
theorem bor_eq {k r : Nat} {R : Nat → Nat} : bor k R r k = r := if_neg (by omega)
theorem mi_old (A : Nat → Nat → Int) (R C : Nat → Nat) {k b : Nat} (r : Nat) (hb : b < k) : mi A R C k r (C b) = 0 :=
 det_samecol _ (show b < k + 1 by omega) (show k < k + 1 by omega) (by omega) fun i _ => by rw [bor_lt hb,bor_eq]
theorem zAG : ∀ {n : Nat} {f : Nat → Int} {X : Nat},(∀ k,k < n → (f k).natAbs ≤ X) → (su n f).natAbs ≤ n * X
 | 0,_,_,_ => by simp [su]
 | n + 1,f,X,h => by
  have h1 := zAG (n := n) (f := f) (X := X) fun k hk => h k (by omega)
  have h2 := h n (by omega);have : (su n f + f n).natAbs ≤ (su n f).natAbs + (f n).natAbs := Int.natAbs_add_le _ _
  show (su n f + f n).natAbs ≤ (n + 1) * X
  rw [Nat.succ_mul];omega
theorem zEG : ∀ i : Nat,(sgd i).natAbs = 1
 | 0 => rfl
 | i + 1 => by show (- sgd i).natAbs = 1;rw [Int.natAbs_neg];exact zEG i
theorem zQG {X N : Nat} : ∀ {n : Nat} {A : Nat → Nat → Int},n ≤ N → (∀ i j,i < n → j < n → (A i j).natAbs ≤ X) → (det n A).natAbs ≤ (N * X) ^ n
 | 0,_,_,_ => by simp [det]
 | n + 1,A,hn,h => by
  have h1 : (su (n + 1) fun i => sgd i * A i 0 * det n (fun r c => A (skd i r) (c + 1))).natAbs ≤ (n + 1) * (X * (N * X) ^ n) := zAG fun i hi => by
   have h2 := zQG (X := X) (N := N) (n := n) (A := fun r c => A (skd i r) (c + 1)) (by omega) fun a b ha hb => h (skd i a) (b + 1) (by unfold skd;split <;> omega) (by omega)
   rw [Int.natAbs_mul,Int.natAbs_mul,zEG,Nat.one_mul];exact Nat.mul_le_mul (h i 0 hi (by omega)) h2
  have h3 : (n + 1) * (X * (N * X) ^ n) ≤ N * (X * (N * X) ^ n) := Nat.mul_le_mul_right _ hn;have h4 : N * (X * (N * X) ^ n) = (N * X) ^ (n + 1) := by rw [Nat.pow_succ,Nat.mul_comm _ (N * X),Nat.mul_assoc]
  show (su (n + 1) _).natAbs ≤ _
  omega
section
variable (A : Nat → Nat → Int)
variable {A}
end
open Go.RowKit Go.Shelf
def Ivs (B : Nat) (w : World) (v : Value) (l : List Nat) : Prop := w.ownsRow B 3 1 v l.length (l.map fun (a : Nat) => Value.int .i64 (a : Int))
theorem Ivs.nil (B : Nat) (w : World) : Ivs B w (.slice none 0 0) [] := World.ownsRow_nil _ _ _ _
theorem Ivs.now {B : Nat} {w w' : World} {v : Value} {l : List Nat} (h : Ivs B w v l) (hb : Below w.heap.size w w') : Ivs B w' v l := zXC h fun b _ hlt => hb.block b hlt
theorem Ivs.form {B : Nat} {w : World} {v : Value} {l : List Nat} (h : Ivs B w v l) : ∃ a cap,v = .slice a l.length cap ∧ l.length ≤ cap ∧ (0 < l.length → ∃ g,a = some ⟨g,0,none⟩) := by
 obtain ⟨q1,⟨q2,q3⟩ | ⟨g,cap,cur,q2,q3,q4,q5,q6⟩⟩ := h
 ·exact ⟨none,0,by rw [q2,q3],by omega,fun q => by omega⟩
 ·exact ⟨_,cap,q2,by omega,fun _ => ⟨g,rfl⟩⟩
theorem Ivs.blk {B b : Nat} {w : World} {v : Value} {l : List Nat} (h : Ivs B w v l) (hb : v.ownBlock = some b) : B ≤ b ∧ ∃ L,w.heap[b]? = some (.cells L 3 (0,0)) := by
 obtain ⟨_,⟨r2,_⟩ | ⟨g2,cap,cur,r2,r3,r4,r5⟩⟩ := h
 ·rw [r2] at hb;cases hb
 ·rw [r2] at hb
  simp only [Value.ownBlock,Option.some.injEq] at hb;subst hb;exact ⟨r3,cur,r4⟩
theorem Ivs.at {B g cap n : Nat} {w : World} {l : List Nat} (h : Ivs B w (.slice (some ⟨g,0,none⟩) n cap) l) {i : Nat} (hi : i < l.length) : w.cell? ⟨g,i,none⟩ = some (.int .i64 (l.getD i 0 : Nat)) := by
 obtain ⟨q1,⟨q2,q3⟩ | ⟨g',cap',cur,q2,q3,q4,q5,q6⟩⟩ := h
 ·cases q2
 ·simp only [Value.slice.injEq,Option.some.injEq,Addr.mk.injEq,and_true] at q2
  obtain ⟨rfl,rfl,rfl⟩ := q2;have h1 : w.ownsRow B 3 1 (.slice (some ⟨g,0,none⟩) l.length cap) l.length (l.map fun (a : Nat) => Value.int .i64 (a : Int)) := ⟨q1,.inr ⟨g,cap,cur,rfl,q3,q4,q5,q6⟩⟩
  rw [h1.cellAt i (by omega)];simp [hi]
theorem Ivs.keep {B : Nat} {w w' : World} {v : Value} {l : List Nat} (h : Ivs B w v l) (hk : ∀ (b : Nat) (L : Array Value),v.ownBlock = some b → w.heap[b]? = some (.cells L 3 (0,0)) → w'.heap[b]? = some (.cells L 3 (0,0))) : Ivs B w' v l := zXC h fun b hb hlt => by
 obtain ⟨_,L,e⟩ := h.blk hb;rw [e];exact hk b L hb e
theorem Tryz.infoI13 : (Tryz.prog.info? 3).map (fun i => (i.zero,i.size,i.bytes)) = some (some (.int .i64 0),1,8) := by kernel_rfl
theorem head_add13 (g j : Nat) : (⟨g,0,none⟩ : Addr).add j = ⟨g,j,none⟩ := by unfold Addr.add;split <;> simp_all
theorem wpList_append_ivs (w : World) {ops : Array Oper} {rest : List Oper} {o : Oper} {a : Act} {Q : Exit → Act → World → Prop}
  (hgd : o.guard = none) (s x : Operand) (hop : o.op = .call { callee := .builtin .append,args := #[s,x],argTypes := #[93,93] })
  (B : Nat) (v : Value) (l : List Nat) (t : Nat) (hs : a.eval s = v) (hP : Ivs B w v l) (gx : Nat) (hx : a.eval x = .slice (some ⟨gx,0,none⟩) 1 1) (hc : w.cell? ⟨gx,0,none⟩ = some (.int .i64 (t : Int))) (hlen : l.length ≤ 1000000) (hBs : B ≤ w.heap.size)
  (hK : ∀ g' cap' w',Hid (Ivs B w' (.slice (some ⟨g',0,none⟩) (l.length + 1) cap') (l ++ [t])) → Hid (w.grownBy w' v.ownBlock) → Hid (v.ownBlock = some g' ∨ g' = w.heap.size) → wpList Tryz.prog ops Q rest (a.put o.dst (.slice (some ⟨g',0,none⟩) (l.length + 1) cap')) w') :
  wpList Tryz.prog ops Q (o :: rest) a w := by
 obtain ⟨i,hi,hz,hsz,hby⟩ := info_parts Tryz.infoI13;refine wpList_append_lies w hgd s x 93 hop B 3 i (.int .i64 0) 1 8 Tryz.underlying93 hi hz hsz hby rfl (by omega) v l.length _ hs hP ⟨gx,0,none⟩ 1 1 [.int .i64 (t : Int)] hx rfl ?_ ?_ (by omega) (by unfold maxLen;omega) (by omega) hBs w.heap.size rfl ?_
 ·intro j u' hj
  match j,hj with
  | 0,hj => simp at hj;subst hj;rw [head_add13];exact hc
 ·intro u' hu'
  simp at hu';subst hu'
  rfl
 ·intro g' cap' w' k1 k2 k3 k4
  refine hK _ _ w' ?_ k2 k3;unfold Hid Ivs;rw [List.length_append,List.length_cons,List.length_nil,List.map_append];exact k1
theorem Touch.ty13 {g : Nat} {w w' : World} {ps : List (Value × Value)} (ht : Touch (· = g) w w') (hA : Arr w g ps) : Ty 51 w w' := by
 refine ⟨ht.size,fun b L T fr e hne => ?_⟩;refine (ht.block b (Array.getElem?_eq_some_iff.1 e).1 fun q => ?_).trans e;have q' : b = g := q;subst q';have := e.symm.trans (show w.heap[_]? = _ from hA.1);simp only [Option.some.injEq,Obj.cells.injEq] at this;exact hne this.2.1
theorem Arr.touch {g g' : Nat} {w w' : World} {ps : List (Value × Value)} (h : Arr w g' ps) (ht : Touch (· = g) w w') (hne : g' ≠ g) : Arr w' g' ps := ⟨(ht.block g' h.1.blk hne).trans h.1,h.2⟩
theorem Cel.ty13 {T T' : TypeId} {w w' : World} {b : Nat} {L : List Value} (h : Cel w b T L) (ht : Ty T' w w') (hT : T ≠ T') : Cel w' b T L := ht.2 b _ _ _ h hT
theorem Zms.at {w : World} {g t k : Nat} {ps : List (Value × Value)} {zs : List Int} (h : Zms w ps zs k) (hA : Arr w g ps) (ht : t < zs.length) :
  ∃ nv av lw cv,w.cell? ⟨g,t * 2,none⟩ = some (.bool nv) ∧ w.cell? ⟨g,t * 2 + 1,none⟩ = some (.slice av lw cv) ∧ w.frozen? ⟨g,t * 2,none⟩ = false ∧ w.frozen? ⟨g,t * 2 + 1,none⟩ = false ∧ Zm 0 w (.agg #[.bool nv,.slice av lw cv]) (zs.getD t 0) k := by
 have hp : ps[t]? = some (ps[t]'(by rw [h.1];exact ht)) := List.getElem?_eq_getElem _;obtain ⟨n0,a0,l0,c0,e⟩ := hA.2 _ (List.getElem_mem (l := ps) (n := t) (by rw [h.1];exact ht));have hz : zs[t]? = some (zs.getD t 0) := by simp [ht]
 have q := hA.at hp;have z := h.2 t _ _ hp hz;rw [e] at q z;exact ⟨n0,a0,l0,c0,q.1,q.2,hA.1.fz _,hA.1.fz _,z⟩
theorem Zms.more {w : World} {ps : List (Value × Value)} {zs : List Int} {k l : Nat} (h : Zms w ps zs k) (hl : k ≤ l) : Zms w ps zs l := ⟨h.1,fun j p z hp hz => (h.2 j p z hp hz).more hl⟩
end Go.Proofs.YtbcgggadelnaaaaGreat
namespace Go.Proofs.YtbcgggadelnaaaaGreat
open Go.RowKit
def gv17 (m n : Nat) (gs : Nat → Nat) : List Value := (List.range m).map fun i => rowv n (gs i)
theorem zVE {m n i : Nat} {gs : Nat → Nat} {r : List Value} (hi : i < m) : (gv17 m n gs ++ r)[i]? = some (rowv n (gs i)) := by
 rw [List.getElem?_append_left (by simpa [gv17] using hi)];simp [gv17,hi]
def Rw17 (w : World) (g n : Nat) (F : Nat → Int) (k : Nat) : Prop := ∃ ps,Arr w g ps ∧ Zms w ps ((List.range n).map F) k
theorem Rw17.now {w w' : World} {g n k : Nat} {F : Nat → Int} (h : Rw17 w g n F k) (hb : Below w.heap.size w w') : Rw17 w' g n F k := by
 obtain ⟨ps,h1,h2⟩ := h;exact ⟨ps,h1.step hb,h2.now hb⟩
theorem Rw17.ty {T : TypeId} {w w' : World} {g n k : Nat} {F : Nat → Int} (h : Rw17 w g n F k) (ht : Ty T w w') (h1 : 51 ≠ T) (h2 : 58 ≠ T) : Rw17 w' g n F k := by
 obtain ⟨ps,q1,q2⟩ := h;exact ⟨ps,⟨q1.1.ty13 ht h1,q1.2⟩,q2.ty ht h2⟩
theorem Rw17.touch {w w' : World} {g g' n k : Nat} {F : Nat → Int} {ps : List (Value × Value)} (h : Rw17 w g n F k) (ht : Touch (· = g') w w') (hA : Arr w g' ps) (hne : g ≠ g') : Rw17 w' g n F k := by
 obtain ⟨qs,q1,q2⟩ := h;exact ⟨qs,q1.touch ht hne,q2.ty (ht.ty13 hA) (by decide)⟩
theorem Rw17.congr {w : World} {g n k : Nat} {F G : Nat → Int} (h : Rw17 w g n F k) (e : ∀ j,j < n → F j = G j) : Rw17 w g n G k := by
 obtain ⟨ps,h1,h2⟩ := h;exact ⟨ps,h1,by rw [List.map_congr_left (g := F) fun t ht => (e t (by simpa using ht)).symm];exact h2⟩
theorem Rw17.blk {w : World} {g n k : Nat} {F : Nat → Int} (h : Rw17 w g n F k) : g < w.heap.size := by
 obtain ⟨ps,h1,h2⟩ := h;exact h1.1.blk
def Sh17 (B : Nat) (w : World) (lv : Value) (m n : Nat) (gs : Nat → Nat) (L : Nat → Nat → Int) (k : Nat) : Prop :=
 ((m = 0 ∧ lv = .slice none 0 0) ∨ (0 < m ∧ ∃ Lb cap r,lv = .slice (some ⟨Lb,0,none⟩) m cap ∧ m ≤ cap ∧ B ≤ Lb ∧ Cel w Lb 22 (gv17 m n gs ++ r))) ∧ (∀ i j,i < m → j < m → gs i = gs j → i = j) ∧ ∀ i,i < m → B ≤ gs i ∧ Rw17 w (gs i) n (L i) k
theorem Sh17.now {B m n k : Nat} {w w' : World} {lv : Value} {gs : Nat → Nat} {L : Nat → Nat → Int} (h : Sh17 B w lv m n gs L k) (hb : Below w.heap.size w w') : Sh17 B w' lv m n gs L k := by
 obtain ⟨h1,h4,h5⟩ := h;refine ⟨?_,h4,fun i hi => ⟨(h5 i hi).1,(h5 i hi).2.now hb⟩⟩;rcases h1 with h1 | ⟨h0,Lb,cap,r,e,e0,e1,e2⟩
 ·exact .inl h1
 ·exact .inr ⟨h0,Lb,cap,r,e,e0,e1,e2.step hb⟩
theorem Sh17.ty {T : TypeId} {B m n k : Nat} {w w' : World} {lv : Value} {gs : Nat → Nat} {L : Nat → Nat → Int} (h : Sh17 B w lv m n gs L k) (ht : Ty T w w') (t1 : 51 ≠ T) (t2 : 58 ≠ T) (t3 : 22 ≠ T) : Sh17 B w' lv m n gs L k := by
 obtain ⟨h1,h4,h5⟩ := h;refine ⟨?_,h4,fun i hi => ⟨(h5 i hi).1,(h5 i hi).2.ty ht t1 t2⟩⟩;rcases h1 with h1 | ⟨h0,Lb,cap,r,e,e0,e1,e2⟩
 ·exact .inl h1
 ·exact .inr ⟨h0,Lb,cap,r,e,e0,e1,e2.ty13 ht t3⟩
theorem Sh17.congr {B m n k : Nat} {w : World} {lv : Value} {gs : Nat → Nat} {L L' : Nat → Nat → Int} (h : Sh17 B w lv m n gs L k) (e : ∀ i j,i < m → j < n → L i j = L' i j) : Sh17 B w lv m n gs L' k :=
 ⟨h.1,h.2.1,fun i hi => ⟨(h.2.2 i hi).1,(h.2.2 i hi).2.congr fun j hj => e i j hi hj⟩⟩
theorem Sh17.line {B m n k Lb cap : Nat} {w : World} {gs : Nat → Nat} {L : Nat → Nat → Int} (h : Sh17 B w (.slice (some ⟨Lb,0,none⟩) m cap) m n gs L k) : B ≤ Lb ∧ m ≤ cap ∧ Lb < w.heap.size ∧ ∀ i,i < m → w.cell? ⟨Lb,i,none⟩ = some (rowv n (gs i)) ∧ w.frozen? ⟨Lb,i,none⟩ = false := by
 obtain ⟨h1,h4,h5⟩ := h;rcases h1 with ⟨_,h1⟩ | ⟨h0,Lb',cap',r,e,e0,e1,e2⟩
 ·cases h1
 ·simp only [Value.slice.injEq,Option.some.injEq,Addr.mk.injEq,and_true,true_and] at e
  obtain ⟨rfl,rfl⟩ := e;exact ⟨e1,e0,e2.blk,fun i hi => ⟨e2.at (zVE hi),e2.fz i⟩⟩
theorem Sh17.lineS {B m n k Lb cap i : Nat} {w : World} {gs : Nat → Nat} {L : Nat → Nat → Int} (h : Sh17 B w (.slice (some ⟨Lb,0,none⟩) m cap) m n gs L k) (hi : i < m) : w.cell? ⟨Lb,i,none⟩ = some (.slice (some ⟨gs i,0,none⟩) n n) := (h.line.2.2.2 i hi).1
theorem zID (w : World) (k : Nat) : Zm 0 w (.agg #[.bool false,.slice none 0 0]) 0 k := ⟨false,[],none,0,rfl,Mine.nil _ _,⟨WF.nil,rfl⟩,fun _ => rfl,by simp [iv,val],Nat.zero_le _⟩
theorem Rw17.start {w : World} {g n : Nat} (h : Arr w g (List.replicate n zBB)) (k : Nat) : Rw17 w g n (fun _ => 0) k := by
 refine ⟨_,h,by simp,fun j p z hp hz => ?_⟩;have hz' : z = 0 := by
  rw [List.getElem?_map] at hz;obtain ⟨y,_,e⟩ := Option.map_eq_some_iff.1 hz;exact e.symm
 rw [List.eq_of_mem_replicate (List.mem_of_getElem? hp),hz'];exact zID w k
theorem Rw17.at {w : World} {g n k j : Nat} {F : Nat → Int} (h : Rw17 w g n F k) (hj : j < n) : ∃ m a l c,w.cell? ⟨g,j * 2,none⟩ = some (.bool m) ∧ w.cell? ⟨g,j * 2 + 1,none⟩ = some (.slice a l c) ∧ w.frozen? ⟨g,j * 2,none⟩ = false ∧ w.frozen? ⟨g,j * 2 + 1,none⟩ = false ∧ Zm 0 w (.agg #[.bool m,.slice a l c]) (F j) k := by
 obtain ⟨ps,h1,h2⟩ := h;have hl : ps.length = n := by rw [h2.1];simp
 have hp : ps[j]? = some (ps[j]'(by omega)) := List.getElem?_eq_getElem (by omega);have hq : ((List.range n).map F)[j]? = some (F j) := by simp [hj]
 obtain ⟨m,a,l,c,e⟩ := h1.2 _ (List.getElem_mem (l := ps) (n := j) (by omega));have q := h1.at hp;have z := h2.2 j _ _ hp hq;rw [e] at q z;exact ⟨m,a,l,c,q.1,q.2,h1.1.fz _,h1.1.fz _,z⟩
theorem Rw17.put {w : World} {g n k j : Nat} {F : Nat → Int} {x y : Value} {z : Int} (h : Rw17 w g n F k) (hj : j < n) (hz : Zm 0 w (.agg #[x,y]) z k) : Rw17 ((w.setCell ⟨g,j * 2,none⟩ x).setCell ⟨g,j * 2 + 1,none⟩ y) g n (fun i => if i = j then z else F i) k ∧ Ty 51 w ((w.setCell ⟨g,j * 2,none⟩ x).setCell ⟨g,j * 2 + 1,none⟩ y) := by
 obtain ⟨ps,h1,h2⟩ := h;have hty : Ty 51 w ((w.setCell ⟨g,j * 2,none⟩ x).setCell ⟨g,j * 2 + 1,none⟩ y) := (Ty.set h1.1).trans (Ty.set (h1.1.set _ _));have hl : ps.length = n := by rw [h2.1];simp
 refine ⟨⟨ps.set j (x,y),h1.put (by rw [hl];exact hj) hz.zi.isI,by simp [hl],fun i p q hp hq => ?_⟩,hty⟩;have hin : i < n := by simpa using (List.getElem?_eq_some_iff.1 hq).1
 have hq' : (if i = j then z else F i) = q := by simpa [hin] using hq
 by_cases e : i = j
 ·subst e
  rw [List.getElem?_set_self (by rw [hl];exact hj),Option.some.injEq] at hp;rw [if_pos rfl] at hq';subst hp;subst hq';exact hz.ty hty (by decide)
 ·rw [List.getElem?_set_ne (by omega)] at hp
  rw [if_neg e] at hq';subst hq';exact (h2.2 i p (F i) hp (by simp [hin])).ty hty (by decide)
end Go.Proofs.YtbcgggadelnaaaaGreat
