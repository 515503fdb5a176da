/-
  QDu12ToTailL: Du12, Bz13, St13, Sr13, El13, Iz17, TailL, joined.
-/
import Derived.Test.YtcceoildbnoliaaGreatQDz12
import Derived.Test.YtcceoildbnoliaaGreatQEach9ToPr12
import Derived.Test.YtcceoildbnoliaaGreatQTailToMWord
import Derived.Test.YtcceoildbnoliaaGreatQLst9ToRowsOf9
import Derived.Deep.CutRange

/- Du12 -/
namespace Go.Proofs.YtcceoildbnoliaaGreat
set_option linter.unusedVariables false

/-- A row with a 0 put in at place j. -/
def insd (j : Nat) (u : Nat → Int) (c : Nat) : Int := if c < j then u c else if c = j then 0 else u (c - 1)
/-- The unit row j above a matrix with a column of zeros put in at j. -/
def capd (j : Nat) (B : Nat → Nat → Int) : Nat → Nat → Int
  | 0, c => dlz j c
  | r + 1, c => insd j (B r) c

theorem capd_stR (j : Nat) (B : Nat → Nat → Int) (i : Nat) (u : Nat → Int) : capd j (stR B i u) = stR (capd j B) (i + 1) (insd j u) := by
  funext r c
  cases r with
  | zero => simp [capd, stR]
  | succ r =>
    show insd j (stR B i u r) c = if r + 1 = i + 1 then insd j u c else insd j (B r) c
    by_cases h : r = i
    · subst h; rw [stR_at, if_pos rfl]
    · rw [stR_off _ h, if_neg (by omega)]

theorem Alt.cap {n j : Nat} {F : (Nat → Nat → Int) → Int} (h : Alt (n + 1) F) (hj : j ≤ n) : Alt n fun B => F (capd j B) := by
  refine ⟨fun A B e => h.congr _ _ fun r c hr hc => ?_, fun A i u v x y hi => ?_, fun A i hi e => h.alt _ (i + 1) (by omega) fun c hc => ?_⟩
  · cases r with
    | zero => rfl
    | succ r =>
      show insd j (A r) c = insd j (B r) c
      unfold insd
      split
      · exact e r c (by omega) (by omega)
      · split
        · rfl
        · exact e r (c - 1) (by omega) (by omega)
  · show F (capd j (stR A i _)) = x * F (capd j (stR A i u)) + y * F (capd j (stR A i v))
    rw [capd_stR, capd_stR, capd_stR, ← h.lin _ (i + 1) _ _ x y (by omega)]
    congr 2
    funext c
    unfold insd
    split
    · rfl
    · split
      · simp
      · rfl
  · show insd j (A i) c = insd j (A (i + 1)) c
    unfold insd
    split
    · exact e c (by omega)
    · split
      · rfl
      · exact e (c - 1) (by omega)

/-- The unit matrix with row j moved to the top. -/
theorem Alt.top {n : Nat} {F : (Nat → Nat → Int) → Int} (h : Alt (n + 1) F) : ∀ {j : Nat}, j ≤ n → F (capd j dlz) = sgd j * F dlz
  | 0, _ => by
    show _ = 1 * _
    rw [Int.one_mul]
    refine h.congr _ _ fun r c _ _ => ?_
    cases r with
    | zero => rfl
    | succ r => show insd 0 (dlz r) c = _; unfold insd dlz; grind
  | j + 1, hj => by
    have h1 := Alt.top h (j := j) (by omega)
    have h2 := h.swap (A := capd j dlz) (i := 0) (k := j + 1) (by omega) (by omega) (by omega)
    show _ = - sgd j * _
    rw [Int.neg_mul, ← h1, ← h2]
    refine h.congr _ _ fun r c _ _ => ?_
    by_cases hr : r = j + 1
    · subst hr
      rw [stR_at]
      show insd (j + 1) (dlz j) c = dlz j c
      unfold insd dlz; grind
    · rw [stR_off _ hr]
      cases r with
      | zero =>
        rw [stR_at]
        show dlz (j + 1) c = insd j (dlz j) c
        unfold insd dlz; grind
      | succ r =>
        rw [stR_off _ (by omega)]
        show insd (j + 1) (dlz r) c = insd j (dlz r) c
        unfold insd dlz; grind

/-- Under a unit row the column may be cleared. -/
theorem Alt.clear {n j : Nat} {F : (Nat → Nat → Int) → Int} (h : Alt (n + 1) F) (hj : j ≤ n) (A : Nat → Nat → Int) : F (stR A 0 (dlz j)) = F (capd j fun r c => A (r + 1) (skd j c)) := by
  have key : ∀ k, k ≤ n → F (stR A 0 (dlz j)) = F (fun r c => if r = 0 then dlz j c else if r ≤ k then insd j (fun c => A r (skd j c)) c else A r c) := by
    intro k
    induction k with
    | zero => intro _; exact h.congr _ _ fun r c _ _ => by unfold stR; grind
    | succ k ih =>
      intro hk
      rw [ih (by omega)]
      rw [← h.plus (A := fun r c => if r = 0 then dlz j c else if r ≤ k then insd j (fun c => A r (skd j c)) c else A r c) (i := k + 1) (k := 0) (by omega) (by omega) (by omega) (- A (k + 1) j)]
      refine h.congr _ _ fun r c _ _ => ?_
      by_cases hr : r = k + 1
      · subst hr
        rw [stR_at]
        simp only [Nat.add_one_ne_zero, if_false, if_true]
        rw [if_neg (by omega), if_pos (by omega)]
        unfold insd dlz skd; grind
      · rw [stR_off _ hr]
        grind
  rw [key n (Nat.le_refl n)]
  refine h.congr _ _ fun r c hr _ => ?_
  cases r with
  | zero => rfl
  | succ r =>
    show (if r + 1 = 0 then _ else if r + 1 ≤ n then _ else _) = insd j (fun c => A (r + 1) (skd j c)) c
    rw [if_neg (by omega), if_pos (by omega)]

/-- By the first row. -/
def exd (n : Nat) (A : Nat → Nat → Int) : Int := su (n + 1) fun j => sgd j * A 0 j * det n (fun r c => A (r + 1) (skd j c))
theorem Alt.exp {n : Nat} (IH : ∀ G, Alt n G → ∀ B, G B = det n B * G dlz) {F : (Nat → Nat → Int) → Int} (h : Alt (n + 1) F) (A : Nat → Nat → Int) : F A = exd n A * F dlz := by
  have e0 : F A = F (stR A 0 fun c => su (n + 1) fun j => A 0 j * dlz j c) := h.congr _ _ fun r c _ hc => by
    by_cases hr : r = 0
    · subst hr
      rw [stR_at, su_one (i := c) hc fun k _ hk => by unfold dlz; rw [if_neg hk]; simp]
      unfold dlz; simp
    · rw [stR_off _ hr]
  rw [e0, h.sum (by omega)]
  unfold exd
  rw [← su_mulr]
  refine su_congr fun j hj => ?_
  rw [h.clear (by omega), IH _ (h.cap (by omega)), h.top (by omega)]
  grind

theorem det_unit : ∀ n : Nat, det n dlz = 1
  | 0 => rfl
  | n + 1 => by
    show su (n + 1) _ = 1
    rw [su_one (i := 0) (by omega) fun k _ hk => by unfold dlz; rw [if_neg hk]; simp]
    have e : det n (fun r c => dlz (skd 0 r) (c + 1)) = 1 := by
      rw [← det_unit n]; exact det_congr fun r c _ _ => by unfold dlz skd; grind
    rw [e]; simp [sgd, dlz]

/-- What is linear and alternating is the determinant times its value at the unit matrix. -/
theorem Alt.eq : ∀ {n : Nat} {F : (Nat → Nat → Int) → Int}, Alt n F → ∀ A, F A = det n A * F dlz
  | 0, F, h, A => by
    show F A = 1 * F dlz
    rw [Int.one_mul]; exact h.congr _ _ fun i j hi _ => by omega
  | n + 1, F, h, A => by
    have h1 := Alt.exp (fun G hG B => Alt.eq hG B) h A
    have h2 := Alt.exp (fun G hG B => Alt.eq hG B) (det_alt (n + 1)) A
    rw [det_unit, Int.mul_one] at h2
    rw [h2]; exact h1
theorem det_row (n : Nat) (A : Nat → Nat → Int) : det (n + 1) A = exd n A := by
  have h2 := Alt.exp (fun G hG B => Alt.eq hG B) (det_alt (n + 1)) A
  rwa [det_unit, Int.mul_one] at h2

theorem det_turn : ∀ (n : Nat) (A : Nat → Nat → Int), det n (fun i j => A j i) = det n A
  | 0, _ => rfl
  | n + 1, A => by
    rw [det_row n A]
    exact su_congr fun i _ => by
      show sgd i * A 0 i * det n (fun r c => A (c + 1) (skd i r)) = sgd i * A 0 i * det n (fun r c => A (r + 1) (skd i c))
      rw [det_turn n (fun r c => A (r + 1) (skd i c))]

end Go.Proofs.YtcceoildbnoliaaGreat

/- Bz13 -/
namespace Go.Proofs.YtcceoildbnoliaaGreat
set_option linter.unusedVariables false

/-- A combination of the rows in place of one of them. -/
theorem det_comb {n r : Nat} (A : Nat → Nat → Int) (hr : r < n) (x : Nat → Int) : det n (stR A r fun j => su n fun k => x k * A k j) = x r * det n A := by
  rw [(det_alt n).sum hr x A n, su_one hr fun k hk hne => ?_, stR_self]
  rw [(det_alt n).same (A := stR A r (A k)) hr hk (Ne.symm hne) fun j _ => by rw [stR_at, stR_off _ hne]]
  simp
theorem det_samecol {n a b : Nat} (A : Nat → Nat → Int) (ha : a < n) (hb : b < n) (hab : a ≠ b) (h : ∀ i, i < n → A i a = A i b) : det n A = 0 := by
  rw [← det_turn]
  exact (det_alt n).same ha hb hab fun j hj => h j hj

/-- The first k of R, then r. -/
def bor (k : Nat) (R : Nat → Nat) (r : Nat) : Nat → Nat := fun a => if a < k then R a else r
/-- The determinant at the rows R 0, .., R (k - 1), r and the columns C 0, .., C (k - 1), j. -/
def mi (A : Nat → Nat → Int) (R C : Nat → Nat) (k r j : Nat) : Int := det (k + 1) fun a b => A (bor k R r a) (bor k C j b)
theorem bor_lt {k a r : Nat} {R : Nat → Nat} (h : a < k) : bor k R r a = R a := if_pos h
theorem bor_eq {k r : Nat} {R : Nat → Nat} : bor k R r k = r := if_neg (by omega)
theorem mi_old (A : Nat → Nat → Int) (R C : Nat → Nat) {k b : Nat} (r : Nat) (hb : b < k) : mi A R C k r (C b) = 0 :=
  det_samecol _ (show b < k + 1 by omega) (show k < k + 1 by omega) (by omega) fun i _ => by rw [bor_lt hb, bor_eq]
/-- The size of a determinant. -/
theorem su_abs : ∀ {n : Nat} {f : Nat → Int} {X : Nat}, (∀ k, k < n → (f k).natAbs ≤ X) → (su n f).natAbs ≤ n * X
  | 0, _, _, _ => by simp [su]
  | n + 1, f, X, h => by
    have h1 := su_abs (n := n) (f := f) (X := X) fun k hk => h k (by omega)
    have h2 := h n (by omega)
    have : (su n f + f n).natAbs ≤ (su n f).natAbs + (f n).natAbs := Int.natAbs_add_le _ _
    show (su n f + f n).natAbs ≤ (n + 1) * X
    rw [Nat.succ_mul]; omega
theorem sgd_abs : ∀ i : Nat, (sgd i).natAbs = 1
  | 0 => rfl
  | i + 1 => by show (- sgd i).natAbs = 1; rw [Int.natAbs_neg]; exact sgd_abs i
end Go.Proofs.YtcceoildbnoliaaGreat

/- St13 -/
namespace Go.Proofs.YtcceoildbnoliaaGreat
set_option linter.unusedVariables false

section
variable (A : Nat → Nat → Int)
abbrev gd (l : List Nat) : Nat → Nat := fun a => l.getD a 0
variable {A}
end
end Go.Proofs.YtcceoildbnoliaaGreat

/- Sr13 -/
namespace Go.Proofs.YtcceoildbnoliaaGreat
open Go.RowKit Go.Shelf
set_option linter.unusedVariables false

/-- Numbers gathered by append. -/
def Ivs (B : Nat) (w : World) (v : Value) (l : List Nat) : Prop := w.ownsRow B 3 1 v l.length (l.map fun (a : Nat) => Value.int .i64 (a : Int))
theorem Ivs.nil (B : Nat) (w : World) : Ivs B w (.slice none 0 0) [] := World.ownsRow_nil _ _ _ _
theorem Ivs.now {B : Nat} {w w' : World} {v : Value} {l : List Nat} (h : Ivs B w v l) (hb : Below w.heap.size w w') : Ivs B w' v l := owns_keep h fun b _ hlt => hb.block b hlt
theorem Ivs.form {B : Nat} {w : World} {v : Value} {l : List Nat} (h : Ivs B w v l) : ∃ a cap, v = .slice a l.length cap ∧ l.length ≤ cap ∧ (0 < l.length → ∃ g, a = some ⟨g, 0, none⟩) := by
  obtain ⟨q1, ⟨q2, q3⟩ | ⟨g, cap, cur, q2, q3, q4, q5, q6⟩⟩ := h
  · exact ⟨none, 0, by rw [q2, q3], by omega, fun q => by omega⟩
  · exact ⟨_, cap, q2, by omega, fun _ => ⟨g, rfl⟩⟩
theorem Ivs.blk {B b : Nat} {w : World} {v : Value} {l : List Nat} (h : Ivs B w v l) (hb : v.ownBlock = some b) : B ≤ b ∧ ∃ L, w.heap[b]? = some (.cells L 3 (0, 0)) := by
  obtain ⟨_, ⟨r2, _⟩ | ⟨g2, cap, cur, r2, r3, r4, r5⟩⟩ := h
  · rw [r2] at hb; cases hb
  · rw [r2] at hb
    simp only [Value.ownBlock, Option.some.injEq] at hb
    subst hb
    exact ⟨r3, cur, r4⟩
theorem Ivs.at {B g cap n : Nat} {w : World} {l : List Nat} (h : Ivs B w (.slice (some ⟨g, 0, none⟩) n cap) l) {i : Nat} (hi : i < l.length) : w.cell? ⟨g, i, none⟩ = some (.int .i64 (l.getD i 0 : Nat)) := by
  obtain ⟨q1, ⟨q2, q3⟩ | ⟨g', cap', cur, q2, q3, q4, q5, q6⟩⟩ := h
  · cases q2
  · simp only [Value.slice.injEq, Option.some.injEq, Addr.mk.injEq, and_true] at q2
    obtain ⟨rfl, rfl, rfl⟩ := q2
    have h1 : w.ownsRow B 3 1 (.slice (some ⟨g, 0, none⟩) l.length cap) l.length (l.map fun (a : Nat) => Value.int .i64 (a : Int)) := ⟨q1, .inr ⟨g, cap, cur, rfl, q3, q4, q5, q6⟩⟩
    rw [h1.cellAt i (by omega)]
    simp [hi]
/-- Stays, if its own block stays. -/
theorem Ivs.keep {B : Nat} {w w' : World} {v : Value} {l : List Nat} (h : Ivs B w v l) (hk : ∀ (b : Nat) (L : Array Value), v.ownBlock = some b → w.heap[b]? = some (.cells L 3 (0, 0)) → w'.heap[b]? = some (.cells L 3 (0, 0))) : Ivs B w' v l := owns_keep h fun b hb hlt => by
  obtain ⟨_, L, e⟩ := h.blk hb
  rw [e]; exact hk b L hb e
theorem Tryz.infoI13 : (Tryz.prog.info? 3).map (fun i => (i.zero, i.size, i.bytes)) = some (some (.int .i64 0), 1, 8) := by kernel_rfl
theorem head_add13 (g j : Nat) : (⟨g, 0, none⟩ : Addr).add j = ⟨g, j, none⟩ := by unfold Addr.add; split <;> simp_all
/-- A block of integers alone has turned. -/
theorem Touch.ty13 {g : Nat} {w w' : World} {ps : List (Value × Value)} (ht : Touch (· = g) w w') (hA : Arr w g ps) : Ty 45 w w' := by
  refine ⟨ht.size, fun b L T fr e hne => ?_⟩
  refine (ht.block b (Array.getElem?_eq_some_iff.1 e).1 fun q => ?_).trans e
  have q' : b = g := q
  subst q'
  have := e.symm.trans (show w.heap[_]? = _ from hA.1)
  simp only [Option.some.injEq, Obj.cells.injEq] at this
  exact hne this.2.1
theorem Arr.touch {g g' : Nat} {w w' : World} {ps : List (Value × Value)} (h : Arr w g' ps) (ht : Touch (· = g) w w') (hne : g' ≠ g) : Arr w' g' ps := ⟨(ht.block g' h.1.blk hne).trans h.1, h.2⟩
theorem Ivs.touch {B g : Nat} {w w' : World} {v : Value} {l : List Nat} {ps : List (Value × Value)} (h : Ivs B w v l) (ht : Touch (· = g) w w') (hA : Arr w g ps) : Ivs B w' v l := h.keep fun b L _ e => (ht.ty13 hA).2 b _ _ _ e (by decide)
theorem Cel.ty13 {T T' : TypeId} {w w' : World} {b : Nat} {L : List Value} (h : Cel w b T L) (ht : Ty T' w w') (hT : T ≠ T') : Cel w' b T L := ht.2 b _ _ _ h hT
theorem ShtM.blk {B c k b : Nat} {w : World} {lv : Value} {gs : List Nat} {m : List (List Int)} (h : ShtM B w lv c gs m k) (hb : lv.ownBlock = some b) : B ≤ b ∧ ∃ L, w.heap[b]? = some (.cells L 33 (0, 0)) := by
  obtain ⟨⟨_, ⟨r2, _⟩ | ⟨g2, cap, cur, r2, r3, r4, r5⟩⟩, _⟩ := h
  · rw [r2] at hb; cases hb
  · rw [r2] at hb
    simp only [Value.ownBlock, Option.some.injEq] at hb
    subst hb
    exact ⟨r3, cur, r4⟩
/-- One entry of an array. -/
theorem Zms.at {w : World} {g t k : Nat} {ps : List (Value × Value)} {zs : List Int} (h : Zms w ps zs k) (hA : Arr w g ps) (ht : t < zs.length) :
    ∃ nv av lw cv, w.cell? ⟨g, t * 2, none⟩ = some (.bool nv) ∧ w.cell? ⟨g, t * 2 + 1, none⟩ = some (.slice av lw cv) ∧ w.frozen? ⟨g, t * 2, none⟩ = false ∧ w.frozen? ⟨g, t * 2 + 1, none⟩ = false ∧ Zm 0 w (.agg #[.bool nv, .slice av lw cv]) (zs.getD t 0) k := by
  have hp : ps[t]? = some (ps[t]'(by rw [h.1]; exact ht)) := List.getElem?_eq_getElem _
  obtain ⟨n0, a0, l0, c0, e⟩ := hA.2 _ (List.getElem_mem (l := ps) (n := t) (by rw [h.1]; exact ht))
  have hz : zs[t]? = some (zs.getD t 0) := by simp [ht]
  have q := hA.at hp
  have z := h.2 t _ _ hp hz
  rw [e] at q z
  exact ⟨n0, a0, l0, c0, q.1, q.2, hA.1.fz _, hA.1.fz _, z⟩
/-- One entry is written over. -/
theorem Zms.put {w : World} {g t k : Nat} {ps : List (Value × Value)} {zs : List Int} (h : Zms w ps zs k) (hA : Arr w g ps) (ht : t < zs.length) {x y : Value} {z : Int} (hz : Zm 0 w (.agg #[x, y]) z k) :
    Arr (putp w g t x y) g (ps.set t (x, y)) ∧ Zms (putp w g t x y) (ps.set t (x, y)) (zs.set t z) k ∧ Ty 45 w (putp w g t x y) := by
  have hT : Ty 45 w (putp w g t x y) := (Ty.set hA.1).trans (Ty.set (hA.1.set _ _))
  refine ⟨hA.put (by rw [h.1]; exact ht) hz.zi.isI, ⟨by simp [h.1], fun j p z' hp hzz => ?_⟩, hT⟩
  by_cases r : j = t
  · subst r
    rw [List.getElem?_set_self (by rw [h.1]; exact ht), Option.some.injEq] at hp
    rw [List.getElem?_set_self ht, Option.some.injEq] at hzz
    subst hp hzz
    exact hz.ty hT (by decide)
  · rw [List.getElem?_set_ne (by omega)] at hp hzz
    exact (h.2 j p z' hp hzz).ty hT (by decide)
theorem ShtM.form {B c k : Nat} {w : World} {lv : Value} {gs : List Nat} {m : List (List Int)} (h : ShtM B w lv c gs m k) : ∃ a cap, lv = .slice a m.length cap ∧ m.length ≤ cap ∧ (0 < m.length → ∃ L, a = some ⟨L, 0, none⟩ ∧ B ≤ L ∧ L < w.heap.size) := h.sht.form
end Go.Proofs.YtcceoildbnoliaaGreat

/- El13 -/
namespace Go.Proofs.YtcceoildbnoliaaGreat
open Go.RowKit
set_option linter.unusedVariables false

/-- Two boxes made anywhere in a statement. -/
def Bx2 (W wx : World) (s1 s2 x y x' y' : Value) : Prop := ∃ bp bt, s1 = .pointer (some ⟨bp, 0, none⟩) ∧ s2 = .pointer (some ⟨bt, 0, none⟩) ∧ W.heap.size ≤ bp ∧ W.heap.size ≤ bt ∧ bp ≠ bt ∧ Duo wx bp x y ∧ Duo wx bt x' y' ∧ Below W.heap.size W wx
/-- A box with an integer made anywhere in a statement. -/
def MetX (W wx : World) (s1 : Value) (z : Int) (k : Nat) : Prop :=
  ∃ bk n, ∃ xr : List Int, ∃ a c, s1 = .pointer (some ⟨bk, 0, none⟩) ∧ Below W.heap.size W wx ∧ W.heap.size ≤ bk ∧ Duo wx bk (.bool n) (.slice a xr.length c) ∧ Zm 0 wx (.agg #[.bool n, .slice a xr.length c]) z k
theorem Duo.ty13 {w : World} {b : Nat} {x y : Value} (d : Duo w b x y) (u u' : Value) : Ty 45 w ((w.setCell ⟨b, 0, none⟩ u).setCell ⟨b, 1, none⟩ u') :=
  (Ty.set (L := [x, y]) d).trans (Ty.set (L := [u, y]) (by have := Duo.set0 d u; exact this))
theorem metb0 {W w2 : World} {bk : Nat} {n : Bool} {t : List Int} {a : Option Addr} {c k : Nat} {z : Int} (D : Duo w2 bk (.bool false) (.slice none 0 0)) (M : Zm 0 w2 (.agg #[.bool n, .slice a t.length c]) z k) (HP : Below W.heap.size W w2) (h1 : W.heap.size ≤ bk) :
    MetX W ((w2.setCell ⟨bk, 0, none⟩ (.bool n)).setCell ⟨bk, 1, none⟩ (.slice a t.length c)) (.pointer (some ⟨bk, 0, none⟩)) z k :=
  ⟨bk, n, t, a, c, rfl, bset (bset HP h1) h1, h1, D.set _ _, M.ty (D.ty13 _ _) (by decide)⟩
def mx13 (F0 F1 : Nat → Int) (j t : Nat) : Int := if t < j then F1 t else F0 t
/-- Within a row. -/
def RI13 (w : World) (g n : Nat) (F0 F1 : Nat → Int) (kw gk : Nat) (s : Value) (wx : World) : Prop :=
  ∃ (j : Nat) (ps : List (Value × Value)), s = .int .i64 (j : Int) ∧ j ≤ n ∧ gk = n - j ∧ Arr wx g ps ∧ Zms wx ps ((List.range n).map (mx13 F0 F1 j)) kw ∧ Touch (· = g) w wx
theorem mx13_zero (F0 F1 : Nat → Int) (n : Nat) : (List.range n).map (mx13 F0 F1 0) = (List.range n).map F0 := List.map_congr_left fun t _ => if_neg (by omega)
theorem mx13_all (F0 F1 : Nat → Int) (n : Nat) : (List.range n).map (mx13 F0 F1 n) = (List.range n).map F1 := List.map_congr_left fun t ht => if_pos (by simpa using ht)
theorem mx13_step (F0 F1 : Nat → Int) {n j : Nat} (hj : j < n) : ((List.range n).map (mx13 F0 F1 j)).set j (F1 j) = (List.range n).map (mx13 F0 F1 (j + 1)) := by
  apply List.ext_getElem?
  intro t
  by_cases q : t < n
  · by_cases e : t = j
    · subst e
      rw [List.getElem?_set_self (by simpa using hj), List.getElem?_map, List.getElem?_range q]
      simp [mx13]
    · rw [List.getElem?_set_ne (by omega), List.getElem?_map, List.getElem?_map, List.getElem?_range q]
      simp only [Option.map_some, Option.some.injEq, mx13]
      by_cases h : t < j
      · rw [if_pos h, if_pos (by omega)]
      · rw [if_neg h, if_neg (by omega)]
  · rw [List.getElem?_eq_none (by simp; omega), List.getElem?_eq_none (by simp; omega)]
theorem rmap_at {F : Nat → Int} {n j : Nat} (hj : j < n) : ((List.range n).map F).getD j 0 = F j := by simp [hj]
end Go.Proofs.YtcceoildbnoliaaGreat

/- Iz17 -/
namespace Go.Proofs.YtcceoildbnoliaaGreat
open Go.RowKit
set_option linter.unusedVariables false

abbrev fnZ17 : Value := .func (.func 93) #[] #[]
abbrev fnM17 : Value := .func (.func 53) #[] #[]
abbrev fnS17 : Value := .func (.func 94) #[] #[]
abbrev fnO17 : Value := .func (.func 95) #[] #[]
def SaysZ (w : World) (z : Int) (e : Ending) (w' : World) : Prop := e = .returned (.bool (decide (z = 0))) ∧ Below w.heap.size w w'
theorem cmpI_zero17 (z : Int) : decide (cmpI z 0 = 0) = decide (z = 0) := by
  unfold cmpI
  by_cases h : z = 0
  · subst h; rfl
  · have : ¬ cmpI z 0 = 0 := by unfold cmpI; split <;> (try split) <;> omega
    unfold cmpI at this
    rw [decide_eq_false this, decide_eq_false h]
set_option maxHeartbeats 1600000 in
theorem isz_any {w : World} {v : Value} {z : Int} {k : Nat} (h : Zi w v z k) : Calls Tryz.prog 93 #[v] w (SaysZ w z) := by
  obtain ⟨n, xs, a, c, rfl, s0, z0, k0⟩ := id h
  obtain ⟨V1, hV⟩ : ∃ V1, w.alloc (duo (.bool n) (.slice a xs.length c)) = V1 := ⟨_, rfl⟩
  obtain ⟨b, sz1⟩ := alo1 w (duo (.bool n) (.slice a xs.length c))
  rw [hV] at b sz1
  have PN : Hid (Duo V1 w.heap.size (.bool n) (.slice a xs.length c)) := by unfold Hid; rw [← hV]; exact Duo.new w _ _
  have HS := hid (sign_z (h.now b))
  have B1 := hid b
  have EV := hid hV
  have n0 := PN.out.c0
  have n1 := PN.out.c1
  rw [← hV] at n0 n1
  clear h s0 z0 k0 b sz1 hV PN
  go_enter Tryz.func93, Tryz.ntmps93
  go_wp2_with fail
  rw [EV.out]
  refine HS.out.mono ?_
  rintro e w1 ⟨rfl, b⟩
  have FF : Hid (SaysZ w z (.returned (.bool (decide (cmpI z 0 = 0)))) w1) := by
    unfold Hid; rw [cmpI_zero17]; exact ⟨rfl, below_step B1.out b⟩
  clear HS EV B1 b n0 n1
  go_wp2
  go_ret
  exact FF.out
set_option maxHeartbeats 1600000 in
theorem ovr_any {w : World} {v u : Value} {z y : Int} {k l : Nat} (h0 : Zi w v z k) (h1 : Zi w u y l) (hy : y ≠ 0) (hk : k ≤ 1099511627776) (hl : l ≤ 1099511627776) (hr : z.tmod y = 0) : Calls Tryz.prog 95 #[v, u] w (GivesZ w (z.tdiv y) k) := by
  obtain ⟨n, xs, a, c, rfl, -, -, -⟩ := id h0
  obtain ⟨n', xs', a', c', rfl, -, -, -⟩ := id h1
  obtain ⟨W0, hW0⟩ : ∃ W0, ((w.alloc (duo (.bool n) (.slice a xs.length c))).alloc (duo (.bool n') (.slice a' xs'.length c'))).alloc zbox = W0 := ⟨_, rfl⟩
  obtain ⟨b0, sz0⟩ := alloc3 w (duo (.bool n) (.slice a xs.length c)) (duo (.bool n') (.slice a' xs'.length c')) zbox
  rw [hW0] at b0 sz0
  have p0 : Duo W0 (w.heap.size) (.bool n) (.slice a xs.length c) := by rw [← hW0]; exact duo_late (duo_late (duo_at (by simp)) _) _
  have p1 : Duo W0 (w.heap.size + 1) (.bool n') (.slice a' xs'.length c') := by rw [← hW0]; exact duo_late (duo_at (by simp)) _
  have pR : Duo W0 (w.heap.size + 1 + 1) (.bool false) (.slice none 0 0) := by rw [← hW0]; exact duo_at (by simp)
  have HS := hid (exact_yes (h0.now b0) (h1.now b0) hy hk hl hr)
  have i0 := p0.c0
  have i1 := p0.c1
  have i2 := p1.c0
  have i3 := p1.c1
  rw [← hW0] at i0 i1 i2 i3
  have PR := hid pR
  have B0 := hid b0
  have EW := hid hW0
  have HSZ := hid sz0
  clear h0 h1 hy hk hl hr p0 p1 pR b0 sz0 hW0
  go_enter Tryz.func95, Tryz.ntmps95
  go_wp2_with fail
  rw [EW.out]
  refine HS.out.mono ?_
  rintro e w1 ⟨rq, rfl, mq, bq⟩
  obtain ⟨nq, xq, aq, cq, rfl⟩ := mq.parts
  obtain ⟨V2, hV⟩ : ∃ V2, w1.alloc (duo (.bool nq) (.slice aq xq.length cq)) = V2 := ⟨_, rfl⟩
  obtain ⟨b2, sz2⟩ := alo1 w1 (duo (.bool nq) (.slice aq xq.length cq))
  rw [hV] at b2 sz2
  have D2 : Duo V2 w1.heap.size (.bool nq) (.slice aq xq.length cq) := by rw [← hV]; exact Duo.new w1 _ _
  have R2 := hid ((PR.out.step bq).step b2)
  have j0 := D2.c0
  have j1 := D2.c1
  have r0 := R2.out.c0
  have r1 := R2.out.c1
  have r2 := R2.out.fz 0
  have r3 := R2.out.fz 1
  have FF : Hid (GivesZ w (z.tdiv y) k (.returned (.agg #[.bool nq, .slice aq xq.length cq])) ((V2.setCell ⟨w.heap.size + 1 + 1, 0, none⟩ (.bool nq)).setCell ⟨w.heap.size + 1 + 1, 1, none⟩ (.slice aq xq.length cq))) :=
    gz_end (mq.now b2) (below_step (below_step B0.out bq) b2) (by omega) (by have := HSZ.out; omega)
  have EV := hid hV
  rw [← hV] at j0 j1 r0 r1 r2 r3
  clear HS mq bq b2 sz2 hV D2 PR B0 EW HSZ i0 i1 i2 i3
  go_wp2
  rw [EV.out]
  exact bodyPost_ret (zback Tryz.results95 (R2.out.set _ _) _ (by rfl)) rfl FF.out
end Go.Proofs.YtcceoildbnoliaaGreat

/- TailL -/
namespace Go.Proofs.YtcceoildbnoliaaGreat
open Go.RowKit
set_option linter.unusedVariables false

def okV (md : Region.Mode) (ops : Array Oper) (n : Nat) : Array Bool → List (Nat × Value) → Bool
  | _, [] => true
  | l, (i, _) :: r => (Region.noSelect ops && Region.free md ops l i && (Region.ready md ops l).contains i && Region.sinkB md ops n && Region.chainB md ops n && decide (n < ops.size) && decide (i < n) && headB md ops n l) && okV md ops n (l.setIfInBounds i true) r
def lisV : Array Bool → List (Nat × Value) → Array Bool
  | l, [] => l
  | l, (i, _) :: r => lisV (l.setIfInBounds i true) r
def actV (ops : Array Oper) : Act → List (Nat × Value) → Act
  | a, [] => a
  | a, (i, v) :: r => match ops[i]? with
    | some o => actV ops (a.put o.dst v) r
    | none => a
def TakesV (P : Program) (ops : Array Oper) (S : World → Prop) : Act → List (Nat × Value) → Prop
  | _, [] => True
  | a, (i, v) :: r => match ops[i]? with
    | some o => YieldsIf P ops S o v a ∧ TakesV P ops S (a.put o.dst v) r
    | none => False
section
variable {P : Program} {ops : Array Oper} {Q : Exit → Act → World → Prop} {md : Region.Mode} {S : World → Prop} {n : Nat}
theorem wpAnyT_takes (hQ : ∀ c d v a w, Q (.panic c) (a.put d v) w → Q (.panic c) a w) : ∀ (vs : List (Nat × Value)) (fuel : Nat) (listed : Array Bool) (a : Act) (w : World), okV md ops n listed vs = true → TakesV P ops S a vs → S w → wpAnyT P md ops Q S n fuel (lisV listed vs) (actV ops a vs) w → wpAnyT P md ops Q S n (fuel + vs.length) listed a w
  | [], fuel, listed, a, w, _, _, _, h => h
  | (i, v) :: r, fuel, listed, a, w, hok, hy, hS, h => by
    rw [okV, Bool.and_eq_true] at hok
    cases e : ops[i]? with
    | none => simp only [TakesV, e] at hy
    | some o =>
      simp only [TakesV, e] at hy
      simp only [actV, e, lisV] at h
      exact wpAnyT_take (fuel := fuel + r.length) e hok.1 (fun c a w hq => hQ c _ _ a w hq) hy.1 hS (wpAnyT_takes hQ r fuel _ _ w hok.2 hy.2 hS h)
theorem wpAnyT_list {fuel : Nat} {listed : Array Bool} {a : Act} {w : World} (vs : List (Nat × Value)) (m : Nat) (hy : TakesV P ops S a vs) (hS : S w)
    (h : wpAnyT P md ops Q S n fuel (lisV listed vs) (actV ops a vs) w) (hm : vs.length = m := by rfl) (hok : okV md ops n listed vs = true := by kernel_rfl) (hQ : ∀ c d v a w, Q (.panic c) (a.put d v) w → Q (.panic c) a w := by (intro _ d _ _ _ h; cases d <;> exact h)) : wpAnyT P md ops Q S n (fuel + m) listed a w := by
  subst hm
  exact wpAnyT_takes hQ vs fuel listed a w hok hy hS h
end
theorem sI9 {α : Type _} (l : List α) (i : Nat) (a : α) : l.toArray.setIfInBounds i a = (l.set i a).toArray := List.setIfInBounds_toArray l i a
theorem s09 {α : Type _} {a b : α} {l : List α} : (a :: l).set 0 b = b :: l := List.set_cons_zero
theorem s19 {α : Type _} {a b : α} {n : Nat} {l : List α} : (a :: l).set (n + 1) b = a :: l.set n b := List.set_cons_succ
theorem g09 {α : Type _} {a : α} {l : List α} : (a :: l)[0]? = some a := List.getElem?_cons_zero
theorem g19 {α : Type _} {a : α} {n : Nat} {l : List α} : (a :: l)[n + 1]? = l[n]? := List.getElem?_cons_succ
theorem gA9 {α : Type _} {l : List α} {n : Nat} : l.toArray[n]? = l[n]? := List.getElem?_toArray
end Go.Proofs.YtcceoildbnoliaaGreat
