/-
 QSr13ToAd14: Sr13, Er13, Cr13, Ad14, joined.
-/
import Derived.Test.YtakkmpkkoecnhaaGreatQEachM11ToPr12
import Derived.Test.YtakkmpkkoecnhaaGreatQBz13ToSt13

set_option maxRecDepth 100000
set_option maxHeartbeats 6400000
set_option linter.unusedVariables false
set_option linter.unusedSimpArgs false
namespace Go.Proofs.YtakkmpkkoecnhaaGreat
open Go.RowKit Go.Shelf
def Ivs (B : Nat) (w : World) (v : Value) (l : List Nat) : Prop := w.ownsRow B 3 1 v l.length (l.map fun (a : Nat) => Value.int .i64 (a : Int))
theorem Ivs.nil (B : Nat) (w : World) : Ivs B w (.slice none 0 0) [] := World.ownsRow_nil _ _ _ _
theorem Ivs.now {B : Nat} {w w' : World} {v : Value} {l : List Nat} (h : Ivs B w v l) (hb : Below w.heap.size w w') : Ivs B w' v l := zBB h fun b _ hlt => hb.block b hlt
theorem Ivs.form {B : Nat} {w : World} {v : Value} {l : List Nat} (h : Ivs B w v l) : ∃ a cap, v = .slice a l.length cap ∧ l.length ≤ cap ∧ (0 < l.length → ∃ g, a = some ⟨g, 0, none⟩) := by
 obtain ⟨q1, ⟨q2, q3⟩ | ⟨g, cap, cur, q2, q3, q4, q5, q6⟩⟩ := h
 ·exact ⟨none, 0, by rw [q2, q3], by omega, fun q => by omega⟩
 ·exact ⟨_, cap, q2, by omega, fun _ => ⟨g, rfl⟩⟩
theorem Ivs.blk {B b : Nat} {w : World} {v : Value} {l : List Nat} (h : Ivs B w v l) (hb : v.ownBlock = some b) : B ≤ b ∧ ∃ L, w.heap[b]? = some (.cells L 3 (0, 0)) := by
 obtain ⟨_, ⟨r2, _⟩ | ⟨g2, cap, cur, r2, r3, r4, r5⟩⟩ := h
 ·rw [r2] at hb; cases hb
 ·rw [r2] at hb
  simp only [Value.ownBlock, Option.some.injEq] at hb; subst hb; exact ⟨r3, cur, r4⟩
theorem Ivs.at {B g cap n : Nat} {w : World} {l : List Nat} (h : Ivs B w (.slice (some ⟨g, 0, none⟩) n cap) l) {i : Nat} (hi : i < l.length) : w.cell? ⟨g, i, none⟩ = some (.int .i64 (l.getD i 0 : Nat)) := by
 obtain ⟨q1, ⟨q2, q3⟩ | ⟨g', cap', cur, q2, q3, q4, q5, q6⟩⟩ := h
 ·cases q2
 ·simp only [Value.slice.injEq, Option.some.injEq, Addr.mk.injEq, and_true] at q2
  obtain ⟨rfl, rfl, rfl⟩ := q2; have h1 : w.ownsRow B 3 1 (.slice (some ⟨g, 0, none⟩) l.length cap) l.length (l.map fun (a : Nat) => Value.int .i64 (a : Int)) := ⟨q1, .inr ⟨g, cap, cur, rfl, q3, q4, q5, q6⟩⟩
  rw [h1.cellAt i (by omega)]; simp [hi]
theorem Ivs.keep {B : Nat} {w w' : World} {v : Value} {l : List Nat} (h : Ivs B w v l) (hk : ∀ (b : Nat) (L : Array Value), v.ownBlock = some b → w.heap[b]? = some (.cells L 3 (0, 0)) → w'.heap[b]? = some (.cells L 3 (0, 0))) : Ivs B w' v l := zBB h fun b hb hlt => by
 obtain ⟨_, L, e⟩ := h.blk hb; rw [e]; exact hk b L hb e
theorem Tryz.infoI13 : (Tryz.prog.info? 3).map (fun i => (i.zero, i.size, i.bytes)) = some (some (.int .i64 0), 1, 8) := by kernel_rfl
theorem zRC (g j : Nat) : (⟨g, 0, none⟩ : Addr).add j = ⟨g, j, none⟩ := by unfold Addr.add; split <;> simp_all
theorem wpList_append_ivs (w : World) {ops : Array Oper} {rest : List Oper} {o : Oper} {a : Act} {Q : Exit → Act → World → Prop}
  (hgd : o.guard = none) (s x : Operand) (hop : o.op = .call { callee := .builtin .append, args := #[s, x], argTypes := #[44, 44] })
  (B : Nat) (v : Value) (l : List Nat) (t : Nat) (hs : a.eval s = v) (hP : Ivs B w v l) (gx : Nat) (hx : a.eval x = .slice (some ⟨gx, 0, none⟩) 1 1) (hc : w.cell? ⟨gx, 0, none⟩ = some (.int .i64 (t : Int))) (hlen : l.length ≤ 1000000) (hBs : B ≤ w.heap.size)
  (hK : ∀ g' cap' w', Hid (Ivs B w' (.slice (some ⟨g', 0, none⟩) (l.length + 1) cap') (l ++ [t])) → Hid (w.grownBy w' v.ownBlock) → Hid (v.ownBlock = some g' ∨ g' = w.heap.size) → wpList Tryz.prog ops Q rest (a.put o.dst (.slice (some ⟨g', 0, none⟩) (l.length + 1) cap')) w') :
  wpList Tryz.prog ops Q (o :: rest) a w := by
 obtain ⟨i, hi, hz, hsz, hby⟩ := info_parts Tryz.infoI13; refine wpList_append_lies w hgd s x 44 hop B 3 i (.int .i64 0) 1 8 Tryz.underlying44 hi hz hsz hby rfl (by omega) v l.length _ hs hP ⟨gx, 0, none⟩ 1 1 [.int .i64 (t : Int)] hx rfl ?_ ?_ (by omega) (by unfold maxLen; omega) (by omega) hBs w.heap.size rfl ?_
 ·intro j u' hj
  match j, hj with
  | 0, hj => simp at hj; subst hj; rw [zRC]; exact hc
 ·intro u' hu'
  simp at hu'; subst hu'
  rfl
 ·intro g' cap' w' k1 k2 k3 k4
  refine hK _ _ w' ?_ k2 k3; unfold Hid Ivs; rw [List.length_append, List.length_cons, List.length_nil, List.map_append]; exact k1
def lnz (A : Nat → Nat → Int) (n : Nat) (rs cs : List Nat) : List (List Int) := (List.range rs.length).map fun k => (List.range n).map fun j => mi A (gd rs) (gd cs) k (gd rs k) j
theorem zTB (A : Nat → Nat → Int) (n : Nat) (rs cs : List Nat) : (lnz A n rs cs).length = rs.length := by simp [lnz]
theorem zIJ {A : Nat → Nat → Int} {n : Nat} {rs cs : List Nat} {k : Nat} (hk : k < rs.length) : zYB (lnz A n rs cs) k = (List.range n).map fun j => mi A (gd rs) (gd cs) k (gd rs k) j := by
 simp [zYB, lnz, hk]
theorem lnz_app {A : Nat → Nat → Int} {n : Nat} {rs cs : List Nat} (hl : cs.length = rs.length) (r c : Nat) : lnz A n (rs ++ [r]) (cs ++ [c]) = lnz A n rs cs ++ [(List.range n).map fun j => mi A (gd rs) (gd cs) rs.length r j] := by
 unfold lnz; rw [List.length_append, List.length_singleton, List.range_succ, List.map_append, List.map_singleton]; have oR : ∀ k, k ≤ rs.length → ∀ a, a < k → gd (rs ++ [r]) a = gd rs a := fun k hk a ha => zRD (by omega)
 have oC : ∀ k, k ≤ rs.length → ∀ a, a < k → gd (cs ++ [c]) a = gd cs a := fun k hk a ha => zRD (by omega)
 congr 1
 ·refine List.map_congr_left fun k hk => ?_
  have hk' : k < rs.length := by simpa using hk
  refine List.map_congr_left fun j _ => ?_
  rw [zRD hk', zOC (oR k (by omega)) (oC k (by omega))]
 ·congr 1
  refine List.map_congr_left fun j _ => ?_
  rw [zII, zOC (oR _ (Nat.le_refl _)) (oC _ (Nat.le_refl _))]
theorem zPA.ty13 {g : Nat} {w w' : World} {ps : List (Value × Value)} (ht : zPA (· = g) w w') (hA : Arr w g ps) : Ty 29 w w' := by
 refine ⟨ht.size, fun b L T fr e hne => ?_⟩; refine (ht.block b (Array.getElem?_eq_some_iff.1 e).1 fun q => ?_).trans e; have q' : b = g := q; subst q'; have := e.symm.trans (show w.heap[_]? = _ from hA.1); simp only [Option.some.injEq, Obj.cells.injEq] at this; exact hne this.2.1
theorem Arr.touch {g g' : Nat} {w w' : World} {ps : List (Value × Value)} (h : Arr w g' ps) (ht : zPA (· = g) w w') (hne : g' ≠ g) : Arr w' g' ps := ⟨(ht.block g' h.1.blk hne).trans h.1, h.2⟩
theorem Ivs.touch {B g : Nat} {w w' : World} {v : Value} {l : List Nat} {ps : List (Value × Value)} (h : Ivs B w v l) (ht : zPA (· = g) w w') (hA : Arr w g ps) : Ivs B w' v l := h.keep fun b L _ e => (ht.ty13 hA).2 b _ _ _ e (by decide)
theorem Cel.ty13 {T T' : TypeId} {w w' : World} {b : Nat} {L : List Value} (h : Cel w b T L) (ht : Ty T' w w') (hT : T ≠ T') : Cel w' b T L := ht.2 b _ _ _ h hT
theorem ShtM.blk {B c k b : Nat} {w : World} {lv : Value} {gs : List Nat} {m : List (List Int)} (h : ShtM B w lv c gs m k) (hb : lv.ownBlock = some b) : B ≤ b ∧ ∃ L, w.heap[b]? = some (.cells L 22 (0, 0)) := by
 obtain ⟨⟨_, ⟨r2, _⟩ | ⟨g2, cap, cur, r2, r3, r4, r5⟩⟩, _⟩ := h
 ·rw [r2] at hb; cases hb
 ·rw [r2] at hb
  simp only [Value.ownBlock, Option.some.injEq] at hb; subst hb; exact ⟨r3, cur, r4⟩
theorem ShtM.touch {B c k g : Nat} {w w' : World} {lv : Value} {gs : List Nat} {m : List (List Int)} {ps : List (Value × Value)} (h : ShtM B w lv c gs m k) (ht : zPA (· = g) w w') (hA : Arr w g ps) (hg : ∀ x ∈ gs, x ≠ g) : ShtM B w' lv c gs m k := by
 have h0 := h; obtain ⟨h1, h2, h3, h4, h5, h6⟩ := h; refine ⟨zBB h1 fun b hb hlt => ?_, h2, h3, h4, h5, fun j g' hg' => ?_⟩
 ·obtain ⟨_, L, e⟩ := h0.blk hb
  rw [e]; exact (ht.ty13 hA).2 b _ _ _ e (by decide)
 ·obtain ⟨qs, q1, q2⟩ := h6 j g' hg'
  exact ⟨qs, q1.touch ht (hg g' (List.mem_of_getElem? hg')), q2.ty (ht.ty13 hA) (by decide)⟩
theorem ShtM.ints {B c k : Nat} {w w' : World} {lv : Value} {gs : List Nat} {m : List (List Int)} (h : ShtM B w lv c gs m k) (ht : Ty 3 w w') : ShtM B w' lv c gs m k := by
 have h0 := h; obtain ⟨h1, h2, h3, h4, h5, h6⟩ := h; refine ⟨zBB h1 fun b hb hlt => ?_, h2, h3, h4, h5, fun j g' hg' => ?_⟩
 ·obtain ⟨_, L, e⟩ := h0.blk hb
  rw [e]; exact ht.2 b _ _ _ e (by decide)
 ·obtain ⟨qs, q1, q2⟩ := h6 j g' hg'
  exact ⟨qs, ⟨q1.1.ty13 ht (by decide), q1.2⟩, q2.ty ht (by decide)⟩
def Srs (A : Nat → Nat → Int) (B : Nat) (w : World) (Bs n : Nat) (rs cs : List Nat) (odd : Bool) (ks : List Nat) (k : Nat) : Prop :=
 ∃ rv cv lv, Cel w Bs 91 [rv, cv, lv, .bool odd] ∧ Ivs B w rv rs ∧ Ivs B w cv cs ∧ ShtM B w lv n ks (lnz A n rs cs) k ∧ (∀ b, rv.ownBlock = some b → cv.ownBlock ≠ some b)
theorem Srs.now {A : Nat → Nat → Int} {B Bs n k : Nat} {w w' : World} {rs cs ks : List Nat} {odd : Bool} (h : Srs A B w Bs n rs cs odd ks k) (hb : Below w.heap.size w w') : Srs A B w' Bs n rs cs odd ks k := by
 obtain ⟨rv, cv, lv, h1, h2, h3, h4, h5⟩ := h; exact ⟨rv, cv, lv, h1.step hb, h2.now hb, h3.now hb, h4.kc (zPC hb), h5⟩
theorem Srs.kc {A : Nat → Nat → Int} {B Bs n k : Nat} {w w' : World} {rs cs ks : List Nat} {odd : Bool} (h : Srs A B w Bs n rs cs odd ks k) (hk : Kc w w') : Srs A B w' Bs n rs cs odd ks k := by
 obtain ⟨rv, cv, lv, h1, h2, h3, h4, h5⟩ := h; exact ⟨rv, cv, lv, hk.cel h1, h2.keep fun b L _ e => hk.2 b _ e rfl, h3.keep fun b L _ e => hk.2 b _ e rfl, h4.kc hk, h5⟩
theorem ShtM.at {B c k : Nat} {w : World} {lv : Value} {gs : List Nat} {m : List (List Int)} (h : ShtM B w lv c gs m k) {i g t : Nat} (hg : gs[i]? = some g) (ht : t < c) :
  ∃ nv av lw cv, w.cell? ⟨g, t * 2, none⟩ = some (.bool nv) ∧ w.cell? ⟨g, t * 2 + 1, none⟩ = some (.slice av lw cv) ∧ Zm 0 w (.agg #[.bool nv, .slice av lw cv]) ((zYB m i).getD t 0) k := by
 obtain ⟨h1, h2, h3, h4, h5, h6⟩ := h; have hi : i < gs.length := (List.getElem?_eq_some_iff.1 hg).1; obtain ⟨ps, p1, p2⟩ := h6 i g hg; have hl : (zYB m i).length = c := h5.at (by omega); have hp : ps[t]? = some (ps[t]'(by rw [p2.1]; omega)) := List.getElem?_eq_getElem _; obtain ⟨n0, a0, l0, c0, e⟩ := p1.2 _ (List.getElem_mem (l := ps) (n := t) (by rw [p2.1]; omega)); have hz : (zYB m i)[t]? = some ((zYB m i).getD t 0) := by simp [show t < (zYB m i).length by omega]
 have q := p1.at hp; have z := p2.2 t _ _ hp hz; rw [e] at q z; exact ⟨n0, a0, l0, c0, q.1, q.2, z⟩
theorem Zms.at {w : World} {g t k : Nat} {ps : List (Value × Value)} {zs : List Int} (h : Zms w ps zs k) (hA : Arr w g ps) (ht : t < zs.length) :
  ∃ nv av lw cv, w.cell? ⟨g, t * 2, none⟩ = some (.bool nv) ∧ w.cell? ⟨g, t * 2 + 1, none⟩ = some (.slice av lw cv) ∧ w.frozen? ⟨g, t * 2, none⟩ = false ∧ w.frozen? ⟨g, t * 2 + 1, none⟩ = false ∧ Zm 0 w (.agg #[.bool nv, .slice av lw cv]) (zs.getD t 0) k := by
 have hp : ps[t]? = some (ps[t]'(by rw [h.1]; exact ht)) := List.getElem?_eq_getElem _; obtain ⟨n0, a0, l0, c0, e⟩ := hA.2 _ (List.getElem_mem (l := ps) (n := t) (by rw [h.1]; exact ht)); have hz : zs[t]? = some (zs.getD t 0) := by simp [ht]
 have q := hA.at hp; have z := h.2 t _ _ hp hz; rw [e] at q z; exact ⟨n0, a0, l0, c0, q.1, q.2, hA.1.fz _, hA.1.fz _, z⟩
theorem Zms.put {w : World} {g t k : Nat} {ps : List (Value × Value)} {zs : List Int} (h : Zms w ps zs k) (hA : Arr w g ps) (ht : t < zs.length) {x y : Value} {z : Int} (hz : Zm 0 w (.agg #[x, y]) z k) :
  Arr (putp w g t x y) g (ps.set t (x, y)) ∧ Zms (putp w g t x y) (ps.set t (x, y)) (zs.set t z) k ∧ Ty 29 w (putp w g t x y) := by
 have hT : Ty 29 w (putp w g t x y) := (Ty.set hA.1).trans (Ty.set (hA.1.set _ _)); refine ⟨hA.put (by rw [h.1]; exact ht) hz.zi.isI, ⟨by simp [h.1], fun j p z' hp hzz => ?_⟩, hT⟩
 by_cases r : j = t
 ·subst r
  rw [List.getElem?_set_self (by rw [h.1]; exact ht), Option.some.injEq] at hp; rw [List.getElem?_set_self ht, Option.some.injEq] at hzz; subst hp hzz; exact hz.ty hT (by decide)
 ·rw [List.getElem?_set_ne (by omega)] at hp hzz
  exact (h.2 j p z' hp hzz).ty hT (by decide)
theorem Zms.more {w : World} {ps : List (Value × Value)} {zs : List Int} {k l : Nat} (h : Zms w ps zs k) (hl : k ≤ l) : Zms w ps zs l := ⟨h.1, fun j p z hp hz => (h.2 j p z hp hz).more hl⟩
theorem ShtM.form {B c k : Nat} {w : World} {lv : Value} {gs : List Nat} {m : List (List Int)} (h : ShtM B w lv c gs m k) : ∃ a cap, lv = .slice a m.length cap ∧ m.length ≤ cap ∧ (0 < m.length → ∃ L, a = some ⟨L, 0, none⟩ ∧ B ≤ L ∧ L < w.heap.size) := h.sht.form
theorem ShtM.line {B c k L cap n : Nat} {w : World} {gs : List Nat} {m : List (List Int)} (h : ShtM B w (.slice (some ⟨L, 0, none⟩) n cap) c gs m k) {i g : Nat} (hg : gs[i]? = some g) : w.cell? ⟨L, i, none⟩ = some (.slice (some ⟨g, 0, none⟩) c c) := by
 have h0 := h; obtain ⟨a, cap', e, _, _⟩ := h.form; simp only [Value.slice.injEq] at e; obtain ⟨-, rfl, -⟩ := e; exact (h0.sht.line hg).1
end Go.Proofs.YtakkmpkkoecnhaaGreat
namespace Go.Proofs.YtakkmpkkoecnhaaGreat
def topR (A : Nat → Nat → Int) (r : Nat) : Nat → Nat → Int
 | 0 => A r
 | i + 1 => A (skd r i)
theorem zNI : ∀ (n r : Nat) (A : Nat → Nat → Int), r ≤ n → det (n + 1) A = sgd r * det (n + 1) (topR A r)
 | n, 0, A, _ => by
  show _ = 1 * _
  rw [Int.one_mul]; exact zHA fun i j _ _ => by
   cases i with
   | zero => rfl
   | succ i => show A (i + 1) j = A (skd 0 i) j; unfold skd; rw [if_neg (by omega)]
 | n, r + 1, A, h => by
  have h1 := (zcA (n + 1)).swap1 (A := A) (i := r) (by omega); have h2 := zNI n r (stR (stR A r (A (r + 1))) (r + 1) (A r)) (by omega); rw [h1] at h2; have e : det (n + 1) (topR (stR (stR A r (A (r + 1))) (r + 1) (A r)) r) = det (n + 1) (topR A (r + 1)) := zHA fun i j _ _ => by
   cases i with
   | zero =>
    show stR (stR A r (A (r + 1))) (r + 1) (A r) r j = A (r + 1) j
    rw [zJA _ (by omega), zRA]
   | succ i =>
    show stR (stR A r (A (r + 1))) (r + 1) (A r) (skd r i) j = A (skd (r + 1) i) j
    by_cases q : i < r
    ·have e1 : skd r i = i := by unfold skd; rw [if_pos q]
     have e2 : skd (r + 1) i = i := by unfold skd; rw [if_pos (by omega)]
     rw [e1, e2, zJA _ (by omega), zJA _ (by omega)]
    ·by_cases q2 : i = r
     ·subst q2
      have e1 : skd i i = i + 1 := by unfold skd; rw [if_neg (by omega)]
      have e2 : skd (i + 1) i = i := by unfold skd; rw [if_pos (by omega)]
      rw [e1, e2, zRA]
     ·have e1 : skd r i = i + 1 := by unfold skd; rw [if_neg (by omega)]
      have e2 : skd (r + 1) i = i + 1 := by unfold skd; rw [if_neg (by omega)]
      rw [e1, e2, zJA _ (by omega), zJA _ (by omega)]
  rw [e] at h2
  show _ = - sgd r * _
  rw [Int.neg_mul, ← h2]; omega
def exT (A : Nat → Nat → Int) (n r j : Nat) : Int := A r j * (sgd (r + j) * det n fun a b => A (skd r a) (skd j b))
theorem zkH : ∀ a b : Nat, sgd (a + b) = sgd a * sgd b
 | 0, b => by show sgd (0 + b) = 1 * sgd b; rw [Nat.zero_add, Int.one_mul]
 | a + 1, b => by
  rw [show a + 1 + b = (a + b) + 1 by omega]
  show - sgd (a + b) = - sgd a * sgd b
  rw [zkH a b, Int.neg_mul]
theorem det_any (n r : Nat) (A : Nat → Nat → Int) (h : r ≤ n) : det (n + 1) A = su (n + 1) (exT A n r) := by
 rw [zNI n r A h, zCF]; unfold exd; rw [← zVB]; refine zKA fun j _ => ?_
 show sgd r * (sgd j * A r j * det n (fun a b => A (skd r a) (skd j b))) = A r j * (sgd (r + j) * det n fun a b => A (skd r a) (skd j b))
 rw [zkH]
 grind
theorem zjH (n : Nat) : sgd n = if n % 2 = 1 then -1 else 1 := by
 induction n with
 | zero => rfl
 | succ n ih =>
  show - sgd n = _
  rw [ih]
  by_cases q : n % 2 = 1
  ·rw [if_pos q, if_neg (by omega)]; rfl
  ·rw [if_neg q, if_pos (by omega)]
theorem zuI {r : Nat} {f : Nat → Int} : ∀ {m : Nat}, r ≤ m → (∀ k, r ≤ k → k < m → f k = 0) → su m f = su r f
 | 0, h, _ => by
  obtain rfl : r = 0 := by omega
  rfl
 | m + 1, h, hz => by
  by_cases e : r = m + 1
  ·subst e; rfl
  ·show su m f + f m = su r f
   rw [zuI (m := m) (by omega) (fun k h1 h2 => hz k h1 (by omega)), hz m (by omega) (by omega)]; omega
def adz (n : Nat) (A : Nat → Nat → Int) (i j : Nat) : Int := det n (stR A j (dlz i))
theorem ztI {n c : Nat} (hc : c < n) (f : Nat → Int) : su n (fun k => f k * dlz k c) = f c := by
 rw [zAB (i := c) hc fun k _ hk => by unfold dlz; rw [if_neg hk]; simp]; unfold dlz; simp
theorem zTG {n : Nat} (A : Nat → Nat → Int) {j : Nat} (hj : j < n) (u : Nat → Int) : su n (fun k => u k * adz n A k j) = det n (stR A j u) := by
 unfold adz; rw [← (zcA n).sum hj u dlz n]; refine zHA fun r c hr hc => ?_
 by_cases q : r = j
 ·subst q; rw [zRA, zRA]; exact ztI hc u
 ·rw [zJA _ q, zJA _ q]
theorem zUG {n r j : Nat} (A : Nat → Nat → Int) (hr : r < n) (hj : j < n) : su n (fun k => A r k * adz n A k j) = if r = j then det n A else 0 := by
 rw [zTG A hj (A r)]
 by_cases q : r = j
 ·subst q; rw [if_pos rfl, zrB]
 ·rw [if_neg q]
  exact (zcA n).same hr hj q fun c _ => by rw [zJA _ q, zRA]
theorem zgE {n j : Nat} (A : Nat → Nat → Int) (hj : j < n) (x : Nat → Int) : ∀ m, m ≤ n → det n (fun r c => if r < m ∧ r ≠ j then A r c + x r * A j c else A r c) = det n A
 | 0, _ => zHA fun r c _ _ => by rw [if_neg (by omega)]
 | m + 1, hm => by
  rw [← zgE A hj x m (by omega)]
  by_cases q : m = j
  ·exact zHA fun r c _ _ => by
    by_cases c1 : r < m ∧ r ≠ j
    ·rw [if_pos c1, if_pos (by omega)]
    ·rw [if_neg c1, if_neg (by omega)]
  ·obtain ⟨P, hP⟩ : ∃ P : Nat → Nat → Int, P = fun r c => if r < m ∧ r ≠ j then A r c + x r * A j c else A r c := ⟨_, rfl⟩
   have hp := (zcA n).plus (A := P) (show m < n by omega) hj q (x m); rw [← hP, ← hp]; refine zHA fun r c _ _ => ?_
   by_cases e : r = m
   ·subst e
    rw [zRA, if_pos (by omega), hP]; simp only []; rw [if_neg (by omega), if_neg (by omega)]
   ·rw [zJA _ e, hP]
    simp only []
    by_cases c1 : r < m ∧ r ≠ j
    ·rw [if_pos c1, if_pos (by omega)]
    ·rw [if_neg c1, if_neg (by omega)]
theorem zyF {n i j : Nat} (A : Nat → Nat → Int) (hj : j < n) : adz n A i j = det n fun r c => if r = j then dlz i c else if c = i then 0 else A r c := by
 unfold adz; rw [← zgE (stR A j (dlz i)) hj (fun r => - A r i) n (Nat.le_refl _)]; refine zHA fun r c hr hc => ?_
 by_cases q : r = j
 ·subst q
  rw [if_neg (by omega), if_pos rfl, zRA]
 ·rw [if_pos ⟨hr, q⟩, if_neg q, zJA _ q, zRA]
  unfold dlz
  by_cases e : c = i
  ·subst e; rw [if_pos rfl, if_pos rfl]; omega
  ·rw [if_neg e, if_neg (Ne.symm e)]; omega
theorem adz_turn {n i j : Nat} (A : Nat → Nat → Int) (hi : i < n) (hj : j < n) : adz n (fun a b => A b a) j i = adz n A i j := by
 rw [zyF A hj, zyF _ hi, ← zpA]; refine zHA fun r c hr hc => ?_
 simp only [dlz]
 by_cases q : r = j
 ·by_cases e : c = i
  ·simp [q, e]
  ·simp [q, e, Ne.symm e]
 ·by_cases e : c = i
  ·simp [q, e, Ne.symm q]
  ·simp [q, e]
theorem ztE {n i c : Nat} (A : Nat → Nat → Int) (hi : i < n) (hc : c < n) : su n (fun k => adz n A i k * A k c) = if i = c then det n A else 0 := by
 have h := zUG (fun a b => A b a) hc hi; rw [zpA] at h; have e : su n (fun k => adz n A i k * A k c) = su n (fun k => A k c * adz n (fun a b => A b a) k i) := zKA fun k hk => by
  rw [adz_turn A hi hk, Int.mul_comm]
 rw [e, h]
 by_cases q : i = c
 ·subst q; rfl
 ·rw [if_neg q, if_neg (Ne.symm q)]
theorem adz_congr {n i j : Nat} {A B : Nat → Nat → Int} (h : ∀ a b, a < n → b < n → A a b = B a b) : adz n A i j = adz n B i j := zHA fun r c hr hc => by
 by_cases q : r = j
 ·subst q; rw [zRA, zRA]
 ·rw [zJA _ q, zJA _ q]; exact h r c hr hc
theorem adz_prod {n r j : Nat} (A B : Nat → Nat → Int) (hr : r < n) (hj : j < n) : su n (fun k => B r k * adz n (muz n A B) k j) = det n B * adz n A r j := by
 rw [zTG _ hj (B r)]; unfold adz; rw [Int.mul_comm, ← zQG]; refine zHA fun a b ha hb => ?_
 unfold muz
 by_cases q : a = j
 ·subst q
  rw [zRA, zRA]; rw [zAB (i := r) hr fun k _ hk => by unfold dlz; rw [if_neg (Ne.symm hk)]; simp]; unfold dlz; simp
 ·rw [zJA _ q, zJA _ q]
theorem adz_most {n i j : Nat} (A B : Nat → Nat → Int) (hi : i < n) (hj : j < n) : det n B * (adz n (muz n A B) i j - su n fun k => adz n B i k * adz n A k j) = 0 := by
 have e1 : su n (fun r => adz n B i r * su n fun k => B r k * adz n (muz n A B) k j) = det n B * adz n (muz n A B) i j := by
  have e2 : su n (fun r => adz n B i r * su n fun k => B r k * adz n (muz n A B) k j) = su n fun k => su n (fun r => adz n B i r * B r k) * adz n (muz n A B) k j := by
   have e3 : su n (fun r => adz n B i r * su n fun k => B r k * adz n (muz n A B) k j) = su n fun r => su n fun k => adz n B i r * B r k * adz n (muz n A B) k j := zKA fun r _ => by
    rw [← zVB]; exact zKA fun k _ => by grind
   rw [e3, zlE]; exact zKA fun k _ => by rw [← zmE]
  rw [e2, zAB (i := i) hi fun k hk hne => by rw [ztE B hi hk, if_neg (Ne.symm hne)]; simp]; rw [ztE B hi hi, if_pos rfl]
 have e4 : su n (fun r => adz n B i r * su n fun k => B r k * adz n (muz n A B) k j) = det n B * su n fun r => adz n B i r * adz n A r j := by
  rw [← zVB]; exact zKA fun r hr => by rw [adz_prod A B hr hj]; grind
 rw [Int.mul_sub, ← e1, ← e4]; omega
theorem adz_minor {n i j : Nat} (A : Nat → Nat → Int) (hi : i ≤ n) (hj : j ≤ n) : adz (n + 1) A i j = sgd (j + i) * det n fun a b => A (skd j a) (skd i b) := by
 unfold adz; rw [det_any n j _ hj, zAB (i := i) (by omega) fun k _ hk => by
  unfold exT; rw [zRA]; unfold dlz; rw [if_neg (Ne.symm hk)]
  simp]
 unfold exT; rw [zRA]; have e : dlz i i = 1 := by unfold dlz; simp
 rw [e, Int.one_mul]
 congr 1
 refine zHA fun a b _ _ => ?_
 rw [zJA]; unfold skd
 split <;> omega
theorem adz_part {n r j : Nat} {A N : Nat → Nat → Int} {g d : Int} (hg : g ≠ 0) (hr : r < n) (hj : j < n) (hN : ∀ k, k < n → adz n A k j = g * N k j) (hd : det n A = g * d) : su n (fun k => A r k * N k j) = if r = j then d else 0 := by
 have h := zUG A hr hj; have e : su n (fun k => A r k * adz n A k j) = g * su n fun k => A r k * N k j := by
  rw [← zVB]; exact zKA fun k hk => by rw [hN k hk]; grind
 rw [e, hd] at h
 by_cases q : r = j
 ·rw [if_pos q] at h ⊢
  exact Int.eq_of_mul_eq_mul_left hg h
 ·rw [if_neg q] at h ⊢
  rcases Int.mul_eq_zero.1 h with x | x
  ·exact absurd x hg
  ·exact x
def evl : List Int → Int → Int
 | [], _ => 0
 | c :: l, t => c + t * evl l t
def Pol (f : Int → Int) : Prop := ∃ l, ∀ t, f t = evl l t
theorem Pol.const (c : Int) : Pol fun _ => c := ⟨[c], fun t => by simp [evl]⟩
theorem Pol.id : Pol fun t => t := ⟨[0, 1], fun t => by simp [evl]⟩
theorem zPG : ∀ l m : List Int, ∃ p, ∀ t, evl l t + evl m t = evl p t
 | [], m => ⟨m, fun t => by simp [evl]⟩
 | c :: l, [] => ⟨c :: l, fun t => by simp [evl]⟩
 | c :: l, d :: m => by
  obtain ⟨p, hp⟩ := zPG l m; exact ⟨(c + d) :: p, fun t => by show c + t * evl l t + (d + t * evl m t) = c + d + t * evl p t; rw [← hp t]; grind⟩
theorem zpF (x : Int) : ∀ l : List Int, ∃ p, ∀ t, x * evl l t = evl p t
 | [] => ⟨[], fun t => by simp [evl]⟩
 | c :: l => by
  obtain ⟨p, hp⟩ := zpF x l; exact ⟨(x * c) :: p, fun t => by show x * (c + t * evl l t) = x * c + t * evl p t; rw [← hp t]; grind⟩
theorem zMI : ∀ l m : List Int, ∃ p, ∀ t, evl l t * evl m t = evl p t
 | [], m => ⟨[], fun t => by simp [evl]⟩
 | c :: l, m => by
  obtain ⟨p, hp⟩ := zMI l m; obtain ⟨q, hq⟩ := zpF c m; obtain ⟨s, hs⟩ := zPG q (0 :: p); refine ⟨s, fun t => ?_⟩; rw [← hs t, ← hq t]
  show (c + t * evl l t) * evl m t = c * evl m t + (0 + t * evl p t)
  rw [← hp t]
  grind
theorem Pol.add {f g : Int → Int} (hf : Pol f) (hg : Pol g) : Pol fun t => f t + g t := by
 obtain ⟨l, hl⟩ := hf; obtain ⟨m, hm⟩ := hg; obtain ⟨p, hp⟩ := zPG l m; exact ⟨p, fun t => by show _ = _; rw [← hp, ← hl, ← hm]⟩
theorem Pol.mul {f g : Int → Int} (hf : Pol f) (hg : Pol g) : Pol fun t => f t * g t := by
 obtain ⟨l, hl⟩ := hf; obtain ⟨m, hm⟩ := hg; obtain ⟨p, hp⟩ := zMI l m; exact ⟨p, fun t => by show _ = _; rw [← hp, ← hl, ← hm]⟩
theorem Pol.su {f : Nat → Int → Int} : ∀ {n : Nat}, (∀ k, k < n → Pol (f k)) → Pol fun t => Proofs.YtakkmpkkoecnhaaGreat.su n fun k => f k t
 | 0, _ => Pol.const 0
 | n + 1, h => (Pol.su (n := n) fun k hk => h k (by omega)).add (h n (by omega))
theorem Pol.det : ∀ {n : Nat} {A : Int → Nat → Nat → Int}, (∀ a b, Pol fun t => A t a b) → Pol fun t => Proofs.YtakkmpkkoecnhaaGreat.det n (A t)
 | 0, _, _ => Pol.const 1
 | n + 1, A, h => Pol.su fun k _ => ((Pol.const (sgd k)).mul (h k 0)).mul (Pol.det (A := fun t r c => A t (skd k r) (c + 1)) fun a b => h _ _)
theorem Pol.adz {n i j : Nat} {A : Int → Nat → Nat → Int} (h : ∀ a b, Pol fun t => A t a b) : Pol fun t => Proofs.YtakkmpkkoecnhaaGreat.adz n (A t) i j :=
 Pol.det fun a b => by
  by_cases q : a = j
  ·subst q
   have : (fun t => stR (A t) a (dlz i) a b) = fun _ => dlz i b := by funext t; rw [zRA]
   rw [this]; exact Pol.const _
  ·have : (fun t => stR (A t) j (dlz i) a b) = fun t => A t a b := by funext t; rw [zJA _ q]
   rw [this]; exact h a b
theorem Pol.null {D : Int → Int} (hD : Pol D) (h0 : D 0 ≠ 0) : ∀ l : List Int, (∀ t, t ≠ 0 → D t * evl l t = 0) → ∀ t, evl l t = 0
 | [], _, t => rfl
 | c :: l, h, t => by
  obtain ⟨m, hm⟩ := hD; have hc : c = 0 := by
   obtain ⟨T, hT⟩ : ∃ T : Int, T = ((D 0).natAbs + c.natAbs + 1 : Nat) := ⟨_, rfl⟩
   have hT0 : T ≠ 0 := by omega
   have hDT : D T ≠ 0 := fun e => by
    have e1 : T ∣ D 0 := by
     cases m with
     | nil => rw [hm 0]; exact ⟨0, by simp [evl]⟩
     | cons d m =>
      have g1 := hm T; have g0 := hm 0; rw [e] at g1; simp only [evl] at g1 g0; refine ⟨- evl m T, ?_⟩; rw [g0]; have : T * -evl m T = -(T * evl m T) := by grind
      rw [this]; omega
    have := Int.natAbs_dvd_natAbs.2 e1; have := Nat.le_of_dvd (by omega) this; omega
   rcases Int.mul_eq_zero.1 (h T hT0) with q | q
   ·exact absurd q hDT
   ·have e2 : T ∣ c := ⟨- evl l T, by
     have q' : c + T * evl l T = 0 := q; have : T * -evl l T = -(T * evl l T) := by grind
     rw [this]; omega⟩
    have := Int.natAbs_dvd_natAbs.2 e2
    by_cases z : c = 0
    ·exact z
    ·have := Nat.le_of_dvd (by omega) this
     omega
  have h2 := Pol.null ⟨m, hm⟩ h0 l fun s hs => by
   have h3 := h s hs; have h4 : D s * (c + s * evl l s) = 0 := h3; rw [hc] at h4; have h5 : s * (D s * evl l s) = 0 := by rw [← h4]; grind
   rcases Int.mul_eq_zero.1 h5 with q | q
   ·exact absurd q hs
   ·exact q
  show c + t * evl l t = 0
  rw [hc, h2 t]
  simp
theorem Pol.dom {D E : Int → Int} (hD : Pol D) (hE : Pol E) (h0 : D 0 ≠ 0) (h : ∀ t, D t * E t = 0) (t : Int) : E t = 0 := by
 obtain ⟨l, hl⟩ := hE; rw [hl t]; exact Pol.null hD h0 l (fun s _ => by rw [← hl s]; exact h s) t
theorem adz_both {n i j : Nat} (A B : Nat → Nat → Int) (hi : i < n) (hj : j < n) : adz n (muz n A B) i j = su n fun k => adz n B i k * adz n A k j := by
 obtain ⟨P, hP⟩ : ∃ P : Int → Nat → Nat → Int, P = fun t a b => dlz a b + t * (B a b + - dlz a b) := ⟨_, rfl⟩
 have hPp : ∀ a b, Pol fun t => P t a b := fun a b => by rw [hP]; exact (Pol.const _).add (Pol.id.mul (Pol.const _))
 have hP0 : P 0 = dlz := by rw [hP]; funext a b; simp
 have hP1 : P 1 = B := by
  rw [hP]; funext a b
  show dlz a b + 1 * (B a b + - dlz a b) = B a b
  omega
 have hE : Pol fun t => adz n (muz n A (P t)) i j + - 1 * su n fun k => adz n (P t) i k * adz n A k j := by
  refine Pol.add (Pol.adz (A := fun t => muz n A (P t)) fun a b => ?_) ((Pol.const (-1)).mul (Pol.su fun k _ => (Pol.adz hPp).mul (Pol.const _))); exact Pol.su (f := fun k t => A a k * P t k b) fun k _ => (Pol.const _).mul (hPp k b)
 have := Pol.dom (Pol.det (n := n) hPp) hE (by show det n (P 0) ≠ 0; rw [hP0, zTC]; decide) (fun t => by
  have := adz_most A (P t) hi hj
  show det n (P t) * _ = 0
  rw [← this]
  congr 1
  omega) 1
 have h2 : adz n (muz n A (P 1)) i j + - 1 * su n (fun k => adz n (P 1) i k * adz n A k j) = 0 := this; rw [hP1] at h2; omega
end Go.Proofs.YtakkmpkkoecnhaaGreat
