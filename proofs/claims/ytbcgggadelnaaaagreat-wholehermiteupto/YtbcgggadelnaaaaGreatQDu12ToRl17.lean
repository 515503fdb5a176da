/-
 QDu12ToRl17: Du12, Bz13, St13, Sr13, Rl17, joined.
-/
import Derived.Test.YtbcgggadelnaaaaGreatQOf11ToDz12

set_option maxRecDepth 100000
set_option maxHeartbeats 6400000
set_option linter.unusedVariables false
set_option linter.unusedSimpArgs false
namespace Go.Proofs.YtbcgggadelnaaaaGreat
def insd (j : Nat) (u : Nat → Int) (c : Nat) : Int := if c < j then u c else if c = j then 0 else u (c - 1)
def capd (j : Nat) (B : Nat → Nat → Int) : Nat → Nat → Int
 | 0,c => dlz j c
 | r + 1,c => insd j (B r) c
theorem zrE (j : Nat) (B : Nat → Nat → Int) (i : Nat) (u : Nat → Int) : capd j (stR B i u) = stR (capd j B) (i + 1) (insd j u) := by
 funext r c
 cases r with
 | zero => simp [capd,stR]
 | succ r =>
  show insd j (stR B i u r) c = if r + 1 = i + 1 then insd j u c else insd j (B r) c
  by_cases h : r = i
  ·subst h;rw [zEB,if_pos rfl]
  ·rw [zoA _ h,if_neg (by omega)]
theorem Alt.cap {n j : Nat} {F : (Nat → Nat → Int) → Int} (h : Alt (n + 1) F) (hj : j ≤ n) : Alt n fun B => F (capd j B) := by
 refine ⟨fun A B e => h.congr _ _ fun r c hr hc => ?_,fun A i u v x y hi => ?_,fun A i hi e => h.alt _ (i + 1) (by omega) fun c hc => ?_⟩
 ·cases r with
  | zero => rfl
  | succ r =>
   show insd j (A r) c = insd j (B r) c
   unfold insd
   split
   ·exact e r c (by omega) (by omega)
   ·split
    ·rfl
    ·exact e r (c - 1) (by omega) (by omega)
 ·show F (capd j (stR A i _)) = x * F (capd j (stR A i u)) + y * F (capd j (stR A i v))
  rw [zrE,zrE,zrE,← h.lin _ (i + 1) _ _ x y (by omega)]
  congr 2
  funext c
  unfold insd
  split
  ·rfl
  ·split
   ·simp
   ·rfl
 ·show insd j (A i) c = insd j (A (i + 1)) c
  unfold insd
  split
  ·exact e c (by omega)
  ·split
   ·rfl
   ·exact e (c - 1) (by omega)
theorem Alt.top {n : Nat} {F : (Nat → Nat → Int) → Int} (h : Alt (n + 1) F) : ∀ {j : Nat},j ≤ n → F (capd j dlz) = sgd j * F dlz
 | 0,_ => by
  show _ = 1 * _
  rw [Int.one_mul];refine h.congr _ _ fun r c _ _ => ?_
  cases r with
  | zero => rfl
  | succ r => show insd 0 (dlz r) c = _;unfold insd dlz;grind
 | j + 1,hj => by
  have h1 := Alt.top h (j := j) (by omega);have h2 := h.swap (A := capd j dlz) (i := 0) (k := j + 1) (by omega) (by omega) (by omega)
  show _ = - sgd j * _
  rw [Int.neg_mul,← h1,← h2];refine h.congr _ _ fun r c _ _ => ?_
  by_cases hr : r = j + 1
  ·subst hr
   rw [zEB]
   show insd (j + 1) (dlz j) c = dlz j c
   unfold insd dlz;grind
  ·rw [zoA _ hr]
   cases r with
   | zero =>
    rw [zEB]
    show dlz (j + 1) c = insd j (dlz j) c
    unfold insd dlz;grind
   | succ r =>
    rw [zoA _ (by omega)]
    show insd (j + 1) (dlz r) c = insd j (dlz r) c
    unfold insd dlz;grind
theorem Alt.clear {n j : Nat} {F : (Nat → Nat → Int) → Int} (h : Alt (n + 1) F) (hj : j ≤ n) (A : Nat → Nat → Int) : F (stR A 0 (dlz j)) = F (capd j fun r c => A (r + 1) (skd j c)) := by
 have key : ∀ k,k ≤ n → F (stR A 0 (dlz j)) = F (fun r c => if r = 0 then dlz j c else if r ≤ k then insd j (fun c => A r (skd j c)) c else A r c) := by
  intro k
  induction k with
  | zero => intro _;exact h.congr _ _ fun r c _ _ => by unfold stR;grind
  | succ k ih =>
   intro hk;rw [ih (by omega)];rw [← h.plus (A := fun r c => if r = 0 then dlz j c else if r ≤ k then insd j (fun c => A r (skd j c)) c else A r c) (i := k + 1) (k := 0) (by omega) (by omega) (by omega) (- A (k + 1) j)];refine h.congr _ _ fun r c _ _ => ?_
   by_cases hr : r = k + 1
   ·subst hr
    rw [zEB];simp only [Nat.add_one_ne_zero,if_false,if_true];rw [if_neg (by omega),if_pos (by omega)];unfold insd dlz skd;grind
   ·rw [zoA _ hr]
    grind
 rw [key n (Nat.le_refl n)];refine h.congr _ _ fun r c hr _ => ?_
 cases r with
 | zero => rfl
 | succ r =>
  show (if r + 1 = 0 then _ else if r + 1 ≤ n then _ else _) = insd j (fun c => A (r + 1) (skd j c)) c
  rw [if_neg (by omega),if_pos (by omega)]
def exd (n : Nat) (A : Nat → Nat → Int) : Int := su (n + 1) fun j => sgd j * A 0 j * det n (fun r c => A (r + 1) (skd j c))
theorem Alt.exp {n : Nat} (IH : ∀ G,Alt n G → ∀ B,G B = det n B * G dlz) {F : (Nat → Nat → Int) → Int} (h : Alt (n + 1) F) (A : Nat → Nat → Int) : F A = exd n A * F dlz := by
 have e0 : F A = F (stR A 0 fun c => su (n + 1) fun j => A 0 j * dlz j c) := h.congr _ _ fun r c _ hc => by
  by_cases hr : r = 0
  ·subst hr
   rw [zEB,zaB (i := c) hc fun k _ hk => by unfold dlz;rw [if_neg hk];simp];unfold dlz;simp
  ·rw [zoA _ hr]
 rw [e0,h.sum (by omega)];unfold exd;rw [← zeD];refine zJA fun j hj => ?_
 rw [h.clear (by omega),IH _ (h.cap (by omega)),h.top (by omega)]
 grind
theorem zmC : ∀ n : Nat,det n dlz = 1
 | 0 => rfl
 | n + 1 => by
  show su (n + 1) _ = 1
  rw [zaB (i := 0) (by omega) fun k _ hk => by unfold dlz;rw [if_neg hk];simp];have e : det n (fun r c => dlz (skd 0 r) (c + 1)) = 1 := by
   rw [← zmC n];exact zQA fun r c _ _ => by unfold dlz skd;grind
  rw [e];simp [sgd,dlz]
theorem Alt.eq : ∀ {n : Nat} {F : (Nat → Nat → Int) → Int},Alt n F → ∀ A,F A = det n A * F dlz
 | 0,F,h,A => by
  show F A = 1 * F dlz
  rw [Int.one_mul];exact h.congr _ _ fun i j hi _ => by omega
 | n + 1,F,h,A => by
  have h1 := Alt.exp (fun G hG B => Alt.eq hG B) h A;have h2 := Alt.exp (fun G hG B => Alt.eq hG B) (zYB (n + 1)) A;rw [zmC,Int.mul_one] at h2;rw [h2];exact h1
theorem det_row (n : Nat) (A : Nat → Nat → Int) : det (n + 1) A = exd n A := by
 have h2 := Alt.exp (fun G hG B => Alt.eq hG B) (zYB (n + 1)) A
 rwa [zmC,Int.mul_one] at h2
theorem zFC : ∀ (n : Nat) (A : Nat → Nat → Int),det n (fun i j => A j i) = det n A
 | 0,_ => rfl
 | n + 1,A => by
  rw [det_row n A];exact zJA fun i _ => by
   show sgd i * A 0 i * det n (fun r c => A (c + 1) (skd i r)) = sgd i * A 0 i * det n (fun r c => A (r + 1) (skd i c))
   rw [zFC n (fun r c => A (r + 1) (skd i c))]
def muz (m : Nat) (A B : Nat → Nat → Int) : Nat → Nat → Int := fun i j => su m fun k => A i k * B k j
theorem muz_alt (n : Nat) (B : Nat → Nat → Int) : Alt n fun A => det n (muz n A B) := by
 have e : ∀ (A : Nat → Nat → Int) (i : Nat) (u : Nat → Int),muz n (stR A i u) B = stR (muz n A B) i fun j => su n fun k => u k * B k j := fun A i u => by
  funext r c
  unfold muz stR
  split <;> simp_all
 refine ⟨fun A C h => zQA fun i j hi hj => zJA fun k hk => by rw [h i k hi hk],fun A i u v x y hi => ?_,fun A i hi he => (zYB n).alt _ i hi fun j hj => zJA fun k hk => by rw [he k hk]⟩
 show det n (muz n (stR A i _) B) = x * det n (muz n (stR A i u) B) + y * det n (muz n (stR A i v) B)
 rw [e,e,e,← (zYB n).lin _ i _ _ x y hi]
 congr 2
 funext j
 rw [← znA,← znA,← zeC];exact zJA fun k _ => by grind
theorem zuG (n : Nat) (A B : Nat → Nat → Int) : det n (muz n A B) = det n A * det n B := by
 have h := Alt.eq (muz_alt n B) A;rw [h]
 congr 1
 exact zQA fun i j hi _ => by
  show su n (fun k => dlz i k * B k j) = B i j
  rw [zaB (i := i) hi fun k _ hk => by unfold dlz;rw [if_neg (Ne.symm hk)];simp];unfold dlz;simp
theorem det_samecol {n a b : Nat} (A : Nat → Nat → Int) (ha : a < n) (hb : b < n) (hab : a ≠ b) (h : ∀ i,i < n → A i a = A i b) : det n A = 0 := by
 rw [← zFC];exact (zYB n).same ha hb hab fun j hj => h j hj
def bor (k : Nat) (R : Nat → Nat) (r : Nat) : Nat → Nat := fun a => if a < k then R a else r
def mi (A : Nat → Nat → Int) (R C : Nat → Nat) (k r j : Nat) : Int := det (k + 1) fun a b => A (bor k R r a) (bor k C j b)
def dd (A : Nat → Nat → Int) (R C : Nat → Nat) (k : Nat) : Int := det k fun a b => A (R a) (C b)
theorem bor_lt {k a r : Nat} {R : Nat → Nat} (h : a < k) : bor k R r a = R a := if_pos h
theorem bor_eq {k r : Nat} {R : Nat → Nat} : bor k R r k = r := if_neg (by omega)
theorem mi_old (A : Nat → Nat → Int) (R C : Nat → Nat) {k b : Nat} (r : Nat) (hb : b < k) : mi A R C k r (C b) = 0 :=
 det_samecol _ (show b < k + 1 by omega) (show k < k + 1 by omega) (by omega) fun i _ => by rw [bor_lt hb,bor_eq]
theorem zbG : ∀ {n : Nat} {f : Nat → Int} {X : Nat},(∀ k,k < n → (f k).natAbs ≤ X) → (su n f).natAbs ≤ n * X
 | 0,_,_,_ => by simp [su]
 | n + 1,f,X,h => by
  have h1 := zbG (n := n) (f := f) (X := X) fun k hk => h k (by omega)
  have h2 := h n (by omega);have : (su n f + f n).natAbs ≤ (su n f).natAbs + (f n).natAbs := Int.natAbs_add_le _ _
  show (su n f + f n).natAbs ≤ (n + 1) * X
  rw [Nat.succ_mul];omega
theorem zeG : ∀ i : Nat,(sgd i).natAbs = 1
 | 0 => rfl
 | i + 1 => by show (- sgd i).natAbs = 1;rw [Int.natAbs_neg];exact zeG i
theorem zoE {X N : Nat} : ∀ {n : Nat} {A : Nat → Nat → Int},n ≤ N → (∀ i j,i < n → j < n → (A i j).natAbs ≤ X) → (det n A).natAbs ≤ (N * X) ^ n
 | 0,_,_,_ => by simp [det]
 | n + 1,A,hn,h => by
  have h1 : (su (n + 1) fun i => sgd i * A i 0 * det n (fun r c => A (skd i r) (c + 1))).natAbs ≤ (n + 1) * (X * (N * X) ^ n) := zbG fun i hi => by
   have h2 := zoE (X := X) (N := N) (n := n) (A := fun r c => A (skd i r) (c + 1)) (by omega) fun a b ha hb => h (skd i a) (b + 1) (by unfold skd;split <;> omega) (by omega)
   rw [Int.natAbs_mul,Int.natAbs_mul,zeG,Nat.one_mul];exact Nat.mul_le_mul (h i 0 hi (by omega)) h2
  have h3 : (n + 1) * (X * (N * X) ^ n) ≤ N * (X * (N * X) ^ n) := Nat.mul_le_mul_right _ hn;have h4 : N * (X * (N * X) ^ n) = (N * X) ^ (n + 1) := by rw [Nat.pow_succ,Nat.mul_comm _ (N * X),Nat.mul_assoc]
  show (su (n + 1) _).natAbs ≤ _
  omega
section
variable (A : Nat → Nat → Int)
variable {A}
end
open Go.RowKit Go.Shelf
theorem Touch.ty13 {g : Nat} {w w' : World} {ps : List (Value × Value)} (ht : Touch (· = g) w w') (hA : Arr w g ps) : Ty 51 w w' := by
 refine ⟨ht.size,fun b L T fr e hne => ?_⟩;refine (ht.block b (Array.getElem?_eq_some_iff.1 e).1 fun q => ?_).trans e;have q' : b = g := q;subst q';have := e.symm.trans (show w.heap[_]? = _ from hA.1);simp only [Option.some.injEq,Obj.cells.injEq] at this;exact hne this.2.1
theorem Arr.touch {g g' : Nat} {w w' : World} {ps : List (Value × Value)} (h : Arr w g' ps) (ht : Touch (· = g) w w') (hne : g' ≠ g) : Arr w' g' ps := ⟨(ht.block g' h.1.blk hne).trans h.1,h.2⟩
theorem Cel.ty13 {T T' : TypeId} {w w' : World} {b : Nat} {L : List Value} (h : Cel w b T L) (ht : Ty T' w w') (hT : T ≠ T') : Cel w' b T L := ht.2 b _ _ _ h hT
theorem Zms.more {w : World} {ps : List (Value × Value)} {zs : List Int} {k l : Nat} (h : Zms w ps zs k) (hl : k ≤ l) : Zms w ps zs l := ⟨h.1,fun j p z hp hz => (h.2 j p z hp hz).more hl⟩
end Go.Proofs.YtbcgggadelnaaaaGreat
namespace Go.Proofs.YtbcgggadelnaaaaGreat
open Go.RowKit
def gv17 (m n : Nat) (gs : Nat → Nat) : List Value := (List.range m).map fun i => rowv n (gs i)
theorem zmE {m n i : Nat} {gs : Nat → Nat} {r : List Value} (hi : i < m) : (gv17 m n gs ++ r)[i]? = some (rowv n (gs i)) := by
 rw [List.getElem?_append_left (by simpa [gv17] using hi)];simp [gv17,hi]
def Rw17 (w : World) (g n : Nat) (F : Nat → Int) (k : Nat) : Prop := ∃ ps,Arr w g ps ∧ Zms w ps ((List.range n).map F) k
theorem Rw17.now {w w' : World} {g n k : Nat} {F : Nat → Int} (h : Rw17 w g n F k) (hb : Below w.heap.size w w') : Rw17 w' g n F k := by
 obtain ⟨ps,h1,h2⟩ := h;exact ⟨ps,h1.step hb,h2.now hb⟩
theorem Rw17.ty {T : TypeId} {w w' : World} {g n k : Nat} {F : Nat → Int} (h : Rw17 w g n F k) (ht : Ty T w w') (h1 : 51 ≠ T) (h2 : 58 ≠ T) : Rw17 w' g n F k := by
 obtain ⟨ps,q1,q2⟩ := h;exact ⟨ps,⟨q1.1.ty13 ht h1,q1.2⟩,q2.ty ht h2⟩
theorem Rw17.touch {w w' : World} {g g' n k : Nat} {F : Nat → Int} {ps : List (Value × Value)} (h : Rw17 w g n F k) (ht : Touch (· = g') w w') (hA : Arr w g' ps) (hne : g ≠ g') : Rw17 w' g n F k := by
 obtain ⟨qs,q1,q2⟩ := h;exact ⟨qs,q1.touch ht hne,q2.ty (ht.ty13 hA) (by decide)⟩
theorem Rw17.congr {w : World} {g n k : Nat} {F G : Nat → Int} (h : Rw17 w g n F k) (e : ∀ j,j < n → F j = G j) : Rw17 w g n G k := by
 obtain ⟨ps,h1,h2⟩ := h;exact ⟨ps,h1,by rw [List.map_congr_left (g := F) fun t ht => (e t (by simpa using ht)).symm];exact h2⟩
theorem Rw17.blk {w : World} {g n k : Nat} {F : Nat → Int} (h : Rw17 w g n F k) : g < w.heap.size := by
 obtain ⟨ps,h1,h2⟩ := h;exact h1.1.blk
def Sh17 (B : Nat) (w : World) (lv : Value) (m n : Nat) (gs : Nat → Nat) (L : Nat → Nat → Int) (k : Nat) : Prop :=
 ((m = 0 ∧ lv = .slice none 0 0) ∨ (0 < m ∧ ∃ Lb cap r,lv = .slice (some ⟨Lb,0,none⟩) m cap ∧ m ≤ cap ∧ B ≤ Lb ∧ Cel w Lb 22 (gv17 m n gs ++ r))) ∧ (∀ i j,i < m → j < m → gs i = gs j → i = j) ∧ ∀ i,i < m → B ≤ gs i ∧ Rw17 w (gs i) n (L i) k
theorem Sh17.now {B m n k : Nat} {w w' : World} {lv : Value} {gs : Nat → Nat} {L : Nat → Nat → Int} (h : Sh17 B w lv m n gs L k) (hb : Below w.heap.size w w') : Sh17 B w' lv m n gs L k := by
 obtain ⟨h1,h4,h5⟩ := h;refine ⟨?_,h4,fun i hi => ⟨(h5 i hi).1,(h5 i hi).2.now hb⟩⟩;rcases h1 with h1 | ⟨h0,Lb,cap,r,e,e0,e1,e2⟩
 ·exact .inl h1
 ·exact .inr ⟨h0,Lb,cap,r,e,e0,e1,e2.step hb⟩
theorem Sh17.ty {T : TypeId} {B m n k : Nat} {w w' : World} {lv : Value} {gs : Nat → Nat} {L : Nat → Nat → Int} (h : Sh17 B w lv m n gs L k) (ht : Ty T w w') (t1 : 51 ≠ T) (t2 : 58 ≠ T) (t3 : 22 ≠ T) : Sh17 B w' lv m n gs L k := by
 obtain ⟨h1,h4,h5⟩ := h;refine ⟨?_,h4,fun i hi => ⟨(h5 i hi).1,(h5 i hi).2.ty ht t1 t2⟩⟩;rcases h1 with h1 | ⟨h0,Lb,cap,r,e,e0,e1,e2⟩
 ·exact .inl h1
 ·exact .inr ⟨h0,Lb,cap,r,e,e0,e1,e2.ty13 ht t3⟩
theorem Sh17.congr {B m n k : Nat} {w : World} {lv : Value} {gs : Nat → Nat} {L L' : Nat → Nat → Int} (h : Sh17 B w lv m n gs L k) (e : ∀ i j,i < m → j < n → L i j = L' i j) : Sh17 B w lv m n gs L' k :=
 ⟨h.1,h.2.1,fun i hi => ⟨(h.2.2 i hi).1,(h.2.2 i hi).2.congr fun j hj => e i j hi hj⟩⟩
theorem Sh17.line {B m n k Lb cap : Nat} {w : World} {gs : Nat → Nat} {L : Nat → Nat → Int} (h : Sh17 B w (.slice (some ⟨Lb,0,none⟩) m cap) m n gs L k) : B ≤ Lb ∧ m ≤ cap ∧ Lb < w.heap.size ∧ ∀ i,i < m → w.cell? ⟨Lb,i,none⟩ = some (rowv n (gs i)) ∧ w.frozen? ⟨Lb,i,none⟩ = false := by
 obtain ⟨h1,h4,h5⟩ := h;rcases h1 with ⟨_,h1⟩ | ⟨h0,Lb',cap',r,e,e0,e1,e2⟩
 ·cases h1
 ·simp only [Value.slice.injEq,Option.some.injEq,Addr.mk.injEq,and_true,true_and] at e
  obtain ⟨rfl,rfl⟩ := e;exact ⟨e1,e0,e2.blk,fun i hi => ⟨e2.at (zmE hi),e2.fz i⟩⟩
theorem Sh17.lineS {B m n k Lb cap i : Nat} {w : World} {gs : Nat → Nat} {L : Nat → Nat → Int} (h : Sh17 B w (.slice (some ⟨Lb,0,none⟩) m cap) m n gs L k) (hi : i < m) : w.cell? ⟨Lb,i,none⟩ = some (.slice (some ⟨gs i,0,none⟩) n n) := (h.line.2.2.2 i hi).1
theorem zxE (w : World) (k : Nat) : Zm 0 w (.agg #[.bool false,.slice none 0 0]) 0 k := ⟨false,[],none,0,rfl,Mine.nil _ _,⟨WF.nil,rfl⟩,fun _ => rfl,by simp [iv,val],Nat.zero_le _⟩
theorem Rw17.at {w : World} {g n k j : Nat} {F : Nat → Int} (h : Rw17 w g n F k) (hj : j < n) : ∃ m a l c,w.cell? ⟨g,j * 2,none⟩ = some (.bool m) ∧ w.cell? ⟨g,j * 2 + 1,none⟩ = some (.slice a l c) ∧ w.frozen? ⟨g,j * 2,none⟩ = false ∧ w.frozen? ⟨g,j * 2 + 1,none⟩ = false ∧ Zm 0 w (.agg #[.bool m,.slice a l c]) (F j) k := by
 obtain ⟨ps,h1,h2⟩ := h;have hl : ps.length = n := by rw [h2.1];simp
 have hp : ps[j]? = some (ps[j]'(by omega)) := List.getElem?_eq_getElem (by omega);have hq : ((List.range n).map F)[j]? = some (F j) := by simp [hj]
 obtain ⟨m,a,l,c,e⟩ := h1.2 _ (List.getElem_mem (l := ps) (n := j) (by omega));have q := h1.at hp;have z := h2.2 j _ _ hp hq;rw [e] at q z;exact ⟨m,a,l,c,q.1,q.2,h1.1.fz _,h1.1.fz _,z⟩
theorem Rw17.put {w : World} {g n k j : Nat} {F : Nat → Int} {x y : Value} {z : Int} (h : Rw17 w g n F k) (hj : j < n) (hz : Zm 0 w (.agg #[x,y]) z k) : Rw17 ((w.setCell ⟨g,j * 2,none⟩ x).setCell ⟨g,j * 2 + 1,none⟩ y) g n (fun i => if i = j then z else F i) k ∧ Ty 51 w ((w.setCell ⟨g,j * 2,none⟩ x).setCell ⟨g,j * 2 + 1,none⟩ y) := by
 obtain ⟨ps,h1,h2⟩ := h;have hty : Ty 51 w ((w.setCell ⟨g,j * 2,none⟩ x).setCell ⟨g,j * 2 + 1,none⟩ y) := (Ty.set h1.1).trans (Ty.set (h1.1.set _ _));have hl : ps.length = n := by rw [h2.1];simp
 refine ⟨⟨ps.set j (x,y),h1.put (by rw [hl];exact hj) hz.zi.isI,by simp [hl],fun i p q hp hq => ?_⟩,hty⟩;have hin : i < n := by simpa using (List.getElem?_eq_some_iff.1 hq).1
 have hq' : (if i = j then z else F i) = q := by simpa [hin] using hq
 by_cases e : i = j
 ·subst e
  rw [List.getElem?_set_self (by rw [hl];exact hj),Option.some.injEq] at hp;rw [if_pos rfl] at hq';subst hp;subst hq';exact hz.ty hty (by decide)
 ·rw [List.getElem?_set_ne (by omega)] at hp
  rw [if_neg e] at hq';subst hq';exact (h2.2 i p (F i) hp (by simp [hin])).ty hty (by decide)
end Go.Proofs.YtbcgggadelnaaaaGreat
