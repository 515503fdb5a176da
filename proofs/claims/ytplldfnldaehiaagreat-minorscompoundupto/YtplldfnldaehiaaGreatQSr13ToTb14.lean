/-
 QSr13ToTb14: Sr13, Er13, Cr13, Ad14, Uq13, Sp13, Gc14, Tb14, joined.
-/
import Derived.Test.YtplldfnldaehiaaGreatQEachM11ToPr12
import Derived.Test.YtplldfnldaehiaaGreatQBz13ToSt13

set_option maxRecDepth 100000
set_option maxHeartbeats 6400000
set_option linter.unusedVariables false
set_option linter.unusedSimpArgs false
namespace Go.Proofs.YtplldfnldaehiaaGreat
open Go.RowKit Go.Shelf
def Ivs (B : Nat) (w : World) (v : Value) (l : List Nat) : Prop := w.ownsRow B 3 1 v l.length (l.map fun (a : Nat) => Value.int .i64 (a : Int))
theorem Ivs.nil (B : Nat) (w : World) : Ivs B w (.slice none 0 0) [] := World.ownsRow_nil _ _ _ _
theorem Ivs.now {B : Nat} {w w' : World} {v : Value} {l : List Nat} (h : Ivs B w v l) (hb : Below w.heap.size w w') : Ivs B w' v l := owns_keep h fun b _ hlt => hb.block b hlt
theorem Ivs.form {B : Nat} {w : World} {v : Value} {l : List Nat} (h : Ivs B w v l) : ∃ a cap, v = .slice a l.length cap ∧ l.length ≤ cap ∧ (0 < l.length → ∃ g, a = some ⟨g, 0, none⟩) := by
 obtain ⟨q1, ⟨q2, q3⟩ | ⟨g, cap, cur, q2, q3, q4, q5, q6⟩⟩ := h
 ·exact ⟨none, 0, by rw [q2, q3], by omega, fun q => by omega⟩
 ·exact ⟨_, cap, q2, by omega, fun _ => ⟨g, rfl⟩⟩
theorem Ivs.blk {B b : Nat} {w : World} {v : Value} {l : List Nat} (h : Ivs B w v l) (hb : v.ownBlock = some b) : B ≤ b ∧ ∃ L, w.heap[b]? = some (.cells L 3 (0, 0)) := by
 obtain ⟨_, ⟨r2, _⟩ | ⟨g2, cap, cur, r2, r3, r4, r5⟩⟩ := h
 ·rw [r2] at hb; cases hb
 ·rw [r2] at hb
  simp only [Value.ownBlock, Option.some.injEq] at hb
  subst hb
  exact ⟨r3, cur, r4⟩
theorem Ivs.at {B g cap n : Nat} {w : World} {l : List Nat} (h : Ivs B w (.slice (some ⟨g, 0, none⟩) n cap) l) {i : Nat} (hi : i < l.length) : w.cell? ⟨g, i, none⟩ = some (.int .i64 (l.getD i 0 : Nat)) := by
 obtain ⟨q1, ⟨q2, q3⟩ | ⟨g', cap', cur, q2, q3, q4, q5, q6⟩⟩ := h
 ·cases q2
 ·simp only [Value.slice.injEq, Option.some.injEq, Addr.mk.injEq, and_true] at q2
  obtain ⟨rfl, rfl, rfl⟩ := q2
  have h1 : w.ownsRow B 3 1 (.slice (some ⟨g, 0, none⟩) l.length cap) l.length (l.map fun (a : Nat) => Value.int .i64 (a : Int)) := ⟨q1, .inr ⟨g, cap, cur, rfl, q3, q4, q5, q6⟩⟩
  rw [h1.cellAt i (by omega)]
  simp [hi]
theorem Ivs.keep {B : Nat} {w w' : World} {v : Value} {l : List Nat} (h : Ivs B w v l) (hk : ∀ (b : Nat) (L : Array Value), v.ownBlock = some b → w.heap[b]? = some (.cells L 3 (0, 0)) → w'.heap[b]? = some (.cells L 3 (0, 0))) : Ivs B w' v l := owns_keep h fun b hb hlt => by
 obtain ⟨_, L, e⟩ := h.blk hb
 rw [e]; exact hk b L hb e
theorem Tryz.infoI13 : (Tryz.prog.info? 3).map (fun i => (i.zero, i.size, i.bytes)) = some (some (.int .i64 0), 1, 8) := by kernel_rfl
theorem head_add13 (g j : Nat) : (⟨g, 0, none⟩ : Addr).add j = ⟨g, j, none⟩ := by unfold Addr.add; split <;> simp_all
theorem wpList_append_ivs (w : World) {ops : Array Oper} {rest : List Oper} {o : Oper} {a : Act} {Q : Exit → Act → World → Prop}
  (hgd : o.guard = none) (s x : Operand) (hop : o.op = .call { callee := .builtin .append, args := #[s, x], argTypes := #[34, 34] })
  (B : Nat) (v : Value) (l : List Nat) (t : Nat) (hs : a.eval s = v) (hP : Ivs B w v l) (gx : Nat) (hx : a.eval x = .slice (some ⟨gx, 0, none⟩) 1 1) (hc : w.cell? ⟨gx, 0, none⟩ = some (.int .i64 (t : Int))) (hlen : l.length ≤ 1000000) (hBs : B ≤ w.heap.size)
  (hK : ∀ g' cap' w', Hid (Ivs B w' (.slice (some ⟨g', 0, none⟩) (l.length + 1) cap') (l ++ [t])) → Hid (w.grownBy w' v.ownBlock) → Hid (v.ownBlock = some g' ∨ g' = w.heap.size) → wpList Tryz.prog ops Q rest (a.put o.dst (.slice (some ⟨g', 0, none⟩) (l.length + 1) cap')) w') :
  wpList Tryz.prog ops Q (o :: rest) a w := by
 obtain ⟨i, hi, hz, hsz, hby⟩ := info_parts Tryz.infoI13
 refine wpList_append_lies w hgd s x 34 hop B 3 i (.int .i64 0) 1 8 Tryz.underlying34 hi hz hsz hby rfl (by omega) v l.length _ hs hP ⟨gx, 0, none⟩ 1 1 [.int .i64 (t : Int)] hx rfl ?_ ?_ (by omega) (by unfold maxLen; omega) (by omega) hBs w.heap.size rfl ?_
 ·intro j u' hj
  match j, hj with
  | 0, hj => simp at hj; subst hj; rw [head_add13]; exact hc
 ·intro u' hu'
  simp at hu'
  subst hu'
  rfl
 ·intro g' cap' w' k1 k2 k3 k4
  refine hK _ _ w' ?_ k2 k3
  unfold Hid Ivs
  rw [List.length_append, List.length_cons, List.length_nil, List.map_append]
  exact k1
def lnz (A : Nat → Nat → Int) (n : Nat) (rs cs : List Nat) : List (List Int) := (List.range rs.length).map fun k => (List.range n).map fun j => mi A (gd rs) (gd cs) k (gd rs k) j
theorem lnz_length (A : Nat → Nat → Int) (n : Nat) (rs cs : List Nat) : (lnz A n rs cs).length = rs.length := by simp [lnz]
theorem lnz_at {A : Nat → Nat → Int} {n : Nat} {rs cs : List Nat} {k : Nat} (hk : k < rs.length) : rowAt (lnz A n rs cs) k = (List.range n).map fun j => mi A (gd rs) (gd cs) k (gd rs k) j := by
 simp [rowAt, lnz, hk]
theorem lnz_app {A : Nat → Nat → Int} {n : Nat} {rs cs : List Nat} (hl : cs.length = rs.length) (r c : Nat) : lnz A n (rs ++ [r]) (cs ++ [c]) = lnz A n rs cs ++ [(List.range n).map fun j => mi A (gd rs) (gd cs) rs.length r j] := by
 unfold lnz
 rw [List.length_append, List.length_singleton, List.range_succ, List.map_append, List.map_singleton]
 have oR : ∀ k, k ≤ rs.length → ∀ a, a < k → gd (rs ++ [r]) a = gd rs a := fun k hk a ha => gd_app (by omega)
 have oC : ∀ k, k ≤ rs.length → ∀ a, a < k → gd (cs ++ [c]) a = gd cs a := fun k hk a ha => gd_app (by omega)
 congr 1
 ·refine List.map_congr_left fun k hk => ?_
  have hk' : k < rs.length := by simpa using hk
  refine List.map_congr_left fun j _ => ?_
  rw [gd_app hk', mi_congr (oR k (by omega)) (oC k (by omega))]
 ·congr 1
  refine List.map_congr_left fun j _ => ?_
  rw [gd_end, mi_congr (oR _ (Nat.le_refl _)) (oC _ (Nat.le_refl _))]
theorem Touch.ty13 {g : Nat} {w w' : World} {ps : List (Value × Value)} (ht : Touch (· = g) w w') (hA : Arr w g ps) : Ty 37 w w' := by
 refine ⟨ht.size, fun b L T fr e hne => ?_⟩
 refine (ht.block b (Array.getElem?_eq_some_iff.1 e).1 fun q => ?_).trans e
 have q' : b = g := q
 subst q'
 have := e.symm.trans (show w.heap[_]? = _ from hA.1)
 simp only [Option.some.injEq, Obj.cells.injEq] at this
 exact hne this.2.1
theorem Arr.touch {g g' : Nat} {w w' : World} {ps : List (Value × Value)} (h : Arr w g' ps) (ht : Touch (· = g) w w') (hne : g' ≠ g) : Arr w' g' ps := ⟨(ht.block g' h.1.blk hne).trans h.1, h.2⟩
theorem Ivs.touch {B g : Nat} {w w' : World} {v : Value} {l : List Nat} {ps : List (Value × Value)} (h : Ivs B w v l) (ht : Touch (· = g) w w') (hA : Arr w g ps) : Ivs B w' v l := h.keep fun b L _ e => (ht.ty13 hA).2 b _ _ _ e (by decide)
theorem Cel.ty13 {T T' : TypeId} {w w' : World} {b : Nat} {L : List Value} (h : Cel w b T L) (ht : Ty T' w w') (hT : T ≠ T') : Cel w' b T L := ht.2 b _ _ _ h hT
theorem ShtM.blk {B c k b : Nat} {w : World} {lv : Value} {gs : List Nat} {m : List (List Int)} (h : ShtM B w lv c gs m k) (hb : lv.ownBlock = some b) : B ≤ b ∧ ∃ L, w.heap[b]? = some (.cells L 22 (0, 0)) := by
 obtain ⟨⟨_, ⟨r2, _⟩ | ⟨g2, cap, cur, r2, r3, r4, r5⟩⟩, _⟩ := h
 ·rw [r2] at hb; cases hb
 ·rw [r2] at hb
  simp only [Value.ownBlock, Option.some.injEq] at hb
  subst hb
  exact ⟨r3, cur, r4⟩
theorem ShtM.touch {B c k g : Nat} {w w' : World} {lv : Value} {gs : List Nat} {m : List (List Int)} {ps : List (Value × Value)} (h : ShtM B w lv c gs m k) (ht : Touch (· = g) w w') (hA : Arr w g ps) (hg : ∀ x ∈ gs, x ≠ g) : ShtM B w' lv c gs m k := by
 have h0 := h
 obtain ⟨h1, h2, h3, h4, h5, h6⟩ := h
 refine ⟨owns_keep h1 fun b hb hlt => ?_, h2, h3, h4, h5, fun j g' hg' => ?_⟩
 ·obtain ⟨_, L, e⟩ := h0.blk hb
  rw [e]; exact (ht.ty13 hA).2 b _ _ _ e (by decide)
 ·obtain ⟨qs, q1, q2⟩ := h6 j g' hg'
  exact ⟨qs, q1.touch ht (hg g' (List.mem_of_getElem? hg')), q2.ty (ht.ty13 hA) (by decide)⟩
theorem ShtM.ints {B c k : Nat} {w w' : World} {lv : Value} {gs : List Nat} {m : List (List Int)} (h : ShtM B w lv c gs m k) (ht : Ty 3 w w') : ShtM B w' lv c gs m k := by
 have h0 := h
 obtain ⟨h1, h2, h3, h4, h5, h6⟩ := h
 refine ⟨owns_keep h1 fun b hb hlt => ?_, h2, h3, h4, h5, fun j g' hg' => ?_⟩
 ·obtain ⟨_, L, e⟩ := h0.blk hb
  rw [e]; exact ht.2 b _ _ _ e (by decide)
 ·obtain ⟨qs, q1, q2⟩ := h6 j g' hg'
  exact ⟨qs, ⟨q1.1.ty13 ht (by decide), q1.2⟩, q2.ty ht (by decide)⟩
def Srs (A : Nat → Nat → Int) (B : Nat) (w : World) (Bs n : Nat) (rs cs : List Nat) (odd : Bool) (ks : List Nat) (k : Nat) : Prop :=
 ∃ rv cv lv, Cel w Bs 97 [rv, cv, lv, .bool odd] ∧ Ivs B w rv rs ∧ Ivs B w cv cs ∧ ShtM B w lv n ks (lnz A n rs cs) k ∧ (∀ b, rv.ownBlock = some b → cv.ownBlock ≠ some b)
theorem Srs.now {A : Nat → Nat → Int} {B Bs n k : Nat} {w w' : World} {rs cs ks : List Nat} {odd : Bool} (h : Srs A B w Bs n rs cs odd ks k) (hb : Below w.heap.size w w') : Srs A B w' Bs n rs cs odd ks k := by
 obtain ⟨rv, cv, lv, h1, h2, h3, h4, h5⟩ := h
 exact ⟨rv, cv, lv, h1.step hb, h2.now hb, h3.now hb, h4.kc (kc_below hb), h5⟩
theorem Srs.kc {A : Nat → Nat → Int} {B Bs n k : Nat} {w w' : World} {rs cs ks : List Nat} {odd : Bool} (h : Srs A B w Bs n rs cs odd ks k) (hk : Kc w w') : Srs A B w' Bs n rs cs odd ks k := by
 obtain ⟨rv, cv, lv, h1, h2, h3, h4, h5⟩ := h
 exact ⟨rv, cv, lv, hk.cel h1, h2.keep fun b L _ e => hk.2 b _ e rfl, h3.keep fun b L _ e => hk.2 b _ e rfl, h4.kc hk, h5⟩
theorem ShtM.at {B c k : Nat} {w : World} {lv : Value} {gs : List Nat} {m : List (List Int)} (h : ShtM B w lv c gs m k) {i g t : Nat} (hg : gs[i]? = some g) (ht : t < c) :
  ∃ nv av lw cv, w.cell? ⟨g, t * 2, none⟩ = some (.bool nv) ∧ w.cell? ⟨g, t * 2 + 1, none⟩ = some (.slice av lw cv) ∧ Zm 0 w (.agg #[.bool nv, .slice av lw cv]) ((rowAt m i).getD t 0) k := by
 obtain ⟨h1, h2, h3, h4, h5, h6⟩ := h
 have hi : i < gs.length := (List.getElem?_eq_some_iff.1 hg).1
 obtain ⟨ps, p1, p2⟩ := h6 i g hg
 have hl : (rowAt m i).length = c := h5.at (by omega)
 have hp : ps[t]? = some (ps[t]'(by rw [p2.1]; omega)) := List.getElem?_eq_getElem _
 obtain ⟨n0, a0, l0, c0, e⟩ := p1.2 _ (List.getElem_mem (l := ps) (n := t) (by rw [p2.1]; omega))
 have hz : (rowAt m i)[t]? = some ((rowAt m i).getD t 0) := by simp [show t < (rowAt m i).length by omega]
 have q := p1.at hp
 have z := p2.2 t _ _ hp hz
 rw [e] at q z
 exact ⟨n0, a0, l0, c0, q.1, q.2, z⟩
theorem Zms.at {w : World} {g t k : Nat} {ps : List (Value × Value)} {zs : List Int} (h : Zms w ps zs k) (hA : Arr w g ps) (ht : t < zs.length) :
  ∃ nv av lw cv, w.cell? ⟨g, t * 2, none⟩ = some (.bool nv) ∧ w.cell? ⟨g, t * 2 + 1, none⟩ = some (.slice av lw cv) ∧ w.frozen? ⟨g, t * 2, none⟩ = false ∧ w.frozen? ⟨g, t * 2 + 1, none⟩ = false ∧ Zm 0 w (.agg #[.bool nv, .slice av lw cv]) (zs.getD t 0) k := by
 have hp : ps[t]? = some (ps[t]'(by rw [h.1]; exact ht)) := List.getElem?_eq_getElem _
 obtain ⟨n0, a0, l0, c0, e⟩ := hA.2 _ (List.getElem_mem (l := ps) (n := t) (by rw [h.1]; exact ht))
 have hz : zs[t]? = some (zs.getD t 0) := by simp [ht]
 have q := hA.at hp
 have z := h.2 t _ _ hp hz
 rw [e] at q z
 exact ⟨n0, a0, l0, c0, q.1, q.2, hA.1.fz _, hA.1.fz _, z⟩
theorem Zms.put {w : World} {g t k : Nat} {ps : List (Value × Value)} {zs : List Int} (h : Zms w ps zs k) (hA : Arr w g ps) (ht : t < zs.length) {x y : Value} {z : Int} (hz : Zm 0 w (.agg #[x, y]) z k) :
  Arr (putp w g t x y) g (ps.set t (x, y)) ∧ Zms (putp w g t x y) (ps.set t (x, y)) (zs.set t z) k ∧ Ty 37 w (putp w g t x y) := by
 have hT : Ty 37 w (putp w g t x y) := (Ty.set hA.1).trans (Ty.set (hA.1.set _ _))
 refine ⟨hA.put (by rw [h.1]; exact ht) hz.zi.isI, ⟨by simp [h.1], fun j p z' hp hzz => ?_⟩, hT⟩
 by_cases r : j = t
 ·subst r
  rw [List.getElem?_set_self (by rw [h.1]; exact ht), Option.some.injEq] at hp
  rw [List.getElem?_set_self ht, Option.some.injEq] at hzz
  subst hp hzz
  exact hz.ty hT (by decide)
 ·rw [List.getElem?_set_ne (by omega)] at hp hzz
  exact (h.2 j p z' hp hzz).ty hT (by decide)
theorem Zms.more {w : World} {ps : List (Value × Value)} {zs : List Int} {k l : Nat} (h : Zms w ps zs k) (hl : k ≤ l) : Zms w ps zs l := ⟨h.1, fun j p z hp hz => (h.2 j p z hp hz).more hl⟩
theorem ShtM.form {B c k : Nat} {w : World} {lv : Value} {gs : List Nat} {m : List (List Int)} (h : ShtM B w lv c gs m k) : ∃ a cap, lv = .slice a m.length cap ∧ m.length ≤ cap ∧ (0 < m.length → ∃ L, a = some ⟨L, 0, none⟩ ∧ B ≤ L ∧ L < w.heap.size) := h.sht.form
theorem ShtM.line {B c k L cap n : Nat} {w : World} {gs : List Nat} {m : List (List Int)} (h : ShtM B w (.slice (some ⟨L, 0, none⟩) n cap) c gs m k) {i g : Nat} (hg : gs[i]? = some g) : w.cell? ⟨L, i, none⟩ = some (.slice (some ⟨g, 0, none⟩) c c) := by
 have h0 := h
 obtain ⟨a, cap', e, _, _⟩ := h.form
 simp only [Value.slice.injEq] at e
 obtain ⟨-, rfl, -⟩ := e
 exact (h0.sht.line hg).1
end Go.Proofs.YtplldfnldaehiaaGreat
namespace Go.Proofs.YtplldfnldaehiaaGreat

theorem su_cut {r : Nat} {f : Nat → Int} : ∀ {m : Nat}, r ≤ m → (∀ k, r ≤ k → k < m → f k = 0) → su m f = su r f
 | 0, h, _ => by
  obtain rfl : r = 0 := by omega
  rfl
 | m + 1, h, hz => by
  by_cases e : r = m + 1
  ·subst e; rfl
  ·show su m f + f m = su r f
   rw [su_cut (m := m) (by omega) (fun k h1 h2 => hz k h1 (by omega)), hz m (by omega) (by omega)]
   omega
def adz (n : Nat) (A : Nat → Nat → Int) (i j : Nat) : Int := det n (stR A j (dlz i))
theorem su_dlz {n c : Nat} (hc : c < n) (f : Nat → Int) : su n (fun k => f k * dlz k c) = f c := by
 rw [su_one (i := c) hc fun k _ hk => by unfold dlz; rw [if_neg hk]; simp]
 unfold dlz; simp
theorem adz_row {n : Nat} (A : Nat → Nat → Int) {j : Nat} (hj : j < n) (u : Nat → Int) : su n (fun k => u k * adz n A k j) = det n (stR A j u) := by
 unfold adz
 rw [← (det_alt n).sum hj u dlz n]
 refine det_congr fun r c hr hc => ?_
 by_cases q : r = j
 ·subst q; rw [stR_at, stR_at]; exact su_dlz hc u
 ·rw [stR_off _ q, stR_off _ q]
theorem adz_mul {n r j : Nat} (A : Nat → Nat → Int) (hr : r < n) (hj : j < n) : su n (fun k => A r k * adz n A k j) = if r = j then det n A else 0 := by
 rw [adz_row A hj (A r)]
 by_cases q : r = j
 ·subst q; rw [if_pos rfl, stR_self]
 ·rw [if_neg q]
  exact (det_alt n).same hr hj q fun c _ => by rw [stR_off _ q, stR_at]
theorem det_addrow {n j : Nat} (A : Nat → Nat → Int) (hj : j < n) (x : Nat → Int) : ∀ m, m ≤ n → det n (fun r c => if r < m ∧ r ≠ j then A r c + x r * A j c else A r c) = det n A
 | 0, _ => det_congr fun r c _ _ => by rw [if_neg (by omega)]
 | m + 1, hm => by
  rw [← det_addrow A hj x m (by omega)]
  by_cases q : m = j
  ·exact det_congr fun r c _ _ => by
    by_cases c1 : r < m ∧ r ≠ j
    ·rw [if_pos c1, if_pos (by omega)]
    ·rw [if_neg c1, if_neg (by omega)]
  ·obtain ⟨P, hP⟩ : ∃ P : Nat → Nat → Int, P = fun r c => if r < m ∧ r ≠ j then A r c + x r * A j c else A r c := ⟨_, rfl⟩
   have hp := (det_alt n).plus (A := P) (show m < n by omega) hj q (x m)
   rw [← hP, ← hp]
   refine det_congr fun r c _ _ => ?_
   by_cases e : r = m
   ·subst e
    rw [stR_at, if_pos (by omega), hP]
    simp only []
    rw [if_neg (by omega), if_neg (by omega)]
   ·rw [stR_off _ e, hP]
    simp only []
    by_cases c1 : r < m ∧ r ≠ j
    ·rw [if_pos c1, if_pos (by omega)]
    ·rw [if_neg c1, if_neg (by omega)]
theorem adz_cross {n i j : Nat} (A : Nat → Nat → Int) (hj : j < n) : adz n A i j = det n fun r c => if r = j then dlz i c else if c = i then 0 else A r c := by
 unfold adz
 rw [← det_addrow (stR A j (dlz i)) hj (fun r => - A r i) n (Nat.le_refl _)]
 refine det_congr fun r c hr hc => ?_
 by_cases q : r = j
 ·subst q
  rw [if_neg (by omega), if_pos rfl, stR_at]
 ·rw [if_pos ⟨hr, q⟩, if_neg q, stR_off _ q, stR_at]
  unfold dlz
  by_cases e : c = i
  ·subst e; rw [if_pos rfl, if_pos rfl]; omega
  ·rw [if_neg e, if_neg (Ne.symm e)]; omega
theorem adz_turn {n i j : Nat} (A : Nat → Nat → Int) (hi : i < n) (hj : j < n) : adz n (fun a b => A b a) j i = adz n A i j := by
 rw [adz_cross A hj, adz_cross _ hi, ← det_turn]
 refine det_congr fun r c hr hc => ?_
 simp only [dlz]
 by_cases q : r = j
 ·by_cases e : c = i
  ·simp [q, e]
  ·simp [q, e, Ne.symm e]
 ·by_cases e : c = i
  ·simp [q, e, Ne.symm q]
  ·simp [q, e]
theorem mul_adz {n i c : Nat} (A : Nat → Nat → Int) (hi : i < n) (hc : c < n) : su n (fun k => adz n A i k * A k c) = if i = c then det n A else 0 := by
 have h := adz_mul (fun a b => A b a) hc hi
 rw [det_turn] at h
 have e : su n (fun k => adz n A i k * A k c) = su n (fun k => A k c * adz n (fun a b => A b a) k i) := su_congr fun k hk => by
  rw [adz_turn A hi hk, Int.mul_comm]
 rw [e, h]
 by_cases q : i = c
 ·subst q; rfl
 ·rw [if_neg q, if_neg (Ne.symm q)]
section
variable {A : Nat → Nat → Int} {n i : Nat} {rs cs rs' cs' : List Nat} {odd odd' : Bool}
end
def Sp (n t : Nat) (L : Nat → Nat → Int) (v : Nat → Int) : Prop := ∃ (N : Int) (e : Nat → Int), N ≠ 0 ∧ ∀ j, j < n → N * v j = su t fun a => e a * L a j
section
variable {n t : Nat} {L : Nat → Nat → Int} {u v : Nat → Int}
theorem Sp.zero (h : ∀ j, j < n → v j = 0) : Sp n t L v := ⟨1, fun _ => 0, by decide, fun j hj => by rw [h j hj, su_zero fun k _ => by simp]; simp⟩
theorem Sp.one {a : Nat} (ha : a < t) (h : ∀ j, j < n → v j = L a j) : Sp n t L v := ⟨1, dlz a, by decide, fun j hj => by
 rw [h j hj, su_one (i := a) ha fun k _ hk => by unfold dlz; rw [if_neg (Ne.symm hk)]; simp]
 unfold dlz; simp⟩
theorem Sp.add (hu : Sp n t L u) (hv : Sp n t L v) : Sp n t L fun j => u j + v j := by
 obtain ⟨N, e, hN, he⟩ := hu
 obtain ⟨M, f, hM, hf⟩ := hv
 refine ⟨N * M, fun a => M * e a + N * f a, Int.mul_ne_zero hN hM, fun j hj => ?_⟩
 have e1 : su t (fun a => (M * e a + N * f a) * L a j) = M * su t (fun a => e a * L a j) + N * su t (fun a => f a * L a j) := by
  rw [← su_mul, ← su_mul, ← su_add]
  exact su_congr fun k _ => by grind
 rw [e1, ← he j hj, ← hf j hj]
 grind
theorem Sp.mul (x : Int) (hu : Sp n t L u) : Sp n t L fun j => x * u j := by
 obtain ⟨N, e, hN, he⟩ := hu
 refine ⟨N, fun a => x * e a, hN, fun j hj => ?_⟩
 have e1 : su t (fun a => (x * e a) * L a j) = x * su t (fun a => e a * L a j) := by
  rw [← su_mul]
  exact su_congr fun k _ => by grind
 rw [e1, ← he j hj]
 grind
theorem Sp.div {x : Int} (hx : x ≠ 0) (hu : Sp n t L fun j => x * u j) : Sp n t L u := by
 obtain ⟨N, e, hN, he⟩ := hu
 exact ⟨N * x, e, Int.mul_ne_zero hN hx, fun j hj => by rw [← he j hj]; grind⟩
theorem Sp.congr (hu : Sp n t L u) (h : ∀ j, j < n → v j = u j) : Sp n t L v := by
 obtain ⟨N, e, hN, he⟩ := hu
 exact ⟨N, e, hN, fun j hj => by rw [h j hj]; exact he j hj⟩
theorem Sp.sum {K : Nat → Nat → Int} (x : Nat → Int) : ∀ {s : Nat}, (∀ a, a < s → Sp n t L (K a)) → Sp n t L fun j => su s fun a => x a * K a j
 | 0, _ => Sp.zero fun j _ => rfl
 | s + 1, h => (Sp.sum x (s := s) fun a ha => h a (by omega)).add ((h s (by omega)).mul (x s))
end
def prn : Nat → (Nat → Int) → Int
 | 0, _ => 1
 | n + 1, N => N 0 * prn n fun k => N (k + 1)
theorem prn_ne : ∀ {n : Nat} {N : Nat → Int}, (∀ k, k < n → N k ≠ 0) → prn n N ≠ 0
 | 0, _, _ => by show (1 : Int) ≠ 0; decide
 | n + 1, N, h => Int.mul_ne_zero (h 0 (by omega)) (prn_ne fun k hk => h (k + 1) (by omega))
theorem det_scale : ∀ (n : Nat) (N : Nat → Int) (A : Nat → Nat → Int), det n (fun a b => N a * A a b) = prn n N * det n A
 | 0, _, _ => rfl
 | n + 1, N, A => by
  rw [det_row, det_row]
  unfold exd
  show _ = (N 0 * prn n fun k => N (k + 1)) * _
  rw [← su_mul]
  refine su_congr fun j _ => ?_
  rw [det_scale n (fun k => N (k + 1)) (fun r c => A (r + 1) (skd j c))]
  grind
theorem Sp.det0 {n t s : Nat} {L X : Nat → Nat → Int} (h : ∀ a, a < s → Sp n t L (X a)) (hts : t < s) {M : Nat → Nat} (hM : ∀ b, b < s → M b < n) : det s (fun a b => X a (M b)) = 0 := by
 have hc : ∀ a, ∃ (N : Int) (e : Nat → Int), N ≠ 0 ∧ (a < s → ∀ j, j < n → N * X a j = su t fun k => e k * L k j) := fun a => by
  by_cases q : a < s
  ·obtain ⟨N, e, h1, h2⟩ := h a q
   exact ⟨N, e, h1, fun _ => h2⟩
  ·exact ⟨1, fun _ => 0, by decide, fun q' => absurd q' q⟩
 have hN := fun a => (hc a).choose_spec
 obtain ⟨N, hNd⟩ : ∃ N : Nat → Int, N = fun a => (hc a).choose := ⟨_, rfl⟩
 have hE : ∀ a, ∃ e : Nat → Int, N a ≠ 0 ∧ (a < s → ∀ j, j < n → N a * X a j = su t fun k => e k * L k j) := fun a => by
  rw [hNd]; exact hN a
 obtain ⟨E, hEd⟩ : ∃ E : Nat → Nat → Int, E = fun a => (hE a).choose := ⟨_, rfl⟩
 have hF : ∀ a, N a ≠ 0 ∧ (a < s → ∀ j, j < n → N a * X a j = su t fun k => E a k * L k j) := fun a => by
  rw [hEd]; exact (hE a).choose_spec
 have e1 : det s (fun a b => N a * X a (M b)) = det s (muz s (fun a k => if k < t then E a k else 0) fun k b => L k (M b)) := det_congr fun a b ha hb => by
  unfold muz
  rw [(hF a).2 ha _ (hM b hb), su_cut (r := t) (m := s) (by omega) (fun k h1 _ => by simp only []; rw [if_neg (by omega)]; simp)]
  exact su_congr fun k hk => by simp only []; rw [if_pos hk]
 have e2 : det s (fun a k => if k < t then E a k else 0) = 0 := by
  rw [← det_turn]
  exact (det_alt s).nul (i := t) hts fun j _ => by rw [if_neg (by omega)]
 rw [det_mul, e2, det_scale s N (fun a b => X a (M b))] at e1
 have e3 := prn_ne (n := s) (N := N) fun k _ => (hF k).1
 rcases Int.mul_eq_zero.1 (e1.trans (Int.zero_mul _)) with q | q
 ·exact absurd q e3
 ·exact q
section
variable {A : Nat → Nat → Int} {n i : Nat} {rs cs : List Nat} {odd : Bool}
end
section
variable {A B : Nat → Nat → Int} {n i k : Nat} {rs cs rs' cs' : List Nat} {odd odd' : Bool}
end

def vcl (A : Nat → Nat → Int) (n c i : Nat) : Int := if c < n then A i c else dlz (c - n) i
def dcl (A : Nat → Nat → Int) (m n : Nat) (f : Nat → Nat) : Int := det m fun p => vcl A n (f p)
def stf (f : Nat → Nat) (i c : Nat) : Nat → Nat := fun p => if p = i then c else f p
theorem dcl_st (A : Nat → Nat → Int) (m n : Nat) (f : Nat → Nat) (i c : Nat) : dcl A m n (stf f i c) = det m (stR (fun p => vcl A n (f p)) i (vcl A n c)) := by
 unfold dcl
 congr 1
 funext p k
 unfold stf stR
 split <;> rfl
theorem dcl_congr {A : Nat → Nat → Int} {m n : Nat} {f g : Nat → Nat} (h : ∀ p, p < m → f p = g p) : dcl A m n f = dcl A m n g := det_congr fun p k hp _ => by rw [h p hp]
theorem cramer14 {m k : Nat} (B : Nat → Nat → Int) (u : Nat → Int) (hk : k < m) : su m (fun i => det m (stR B i u) * B i k) = det m B * u k := by
 have h1 : ∀ i, i < m → det m (stR B i u) * B i k = su m fun t => u t * (adz m B t i * B i k) := fun i hi => by
  rw [← adz_row B hi u, ← su_mulr]
  exact su_congr fun t _ => by grind
 rw [su_congr h1, su_swap]
 have h2 : ∀ t, t < m → su m (fun i => u t * (adz m B t i * B i k)) = if t = k then u k * det m B else 0 := fun t ht => by
  rw [su_mul, mul_adz B ht hk]
  by_cases q : t = k
  ·subst q; rw [if_pos rfl, if_pos rfl]
  ·rw [if_neg q, if_neg q, Int.mul_zero]
 rw [su_congr h2, su_one hk (fun t _ ht => if_neg ht), if_pos rfl, Int.mul_comm]
theorem det_swp {m p i : Nat} (B : Nat → Nat → Int) (u : Nat → Int) (hp : p < m) (hi : i < m) (h : i ≠ p) : det m (stR (stR B p u) i (B p)) = - det m (stR B i u) := by
 rw [← (det_alt m).swap (A := stR B i u) hp hi (Ne.symm h)]
 congr 1
 funext r c
 unfold stR
 by_cases a : r = i
 ·rw [if_pos a, if_pos a, if_neg (Ne.symm h)]
 ·by_cases b : r = p
  ·rw [if_neg a, if_neg a, if_pos b, if_pos b, if_pos rfl]
  ·rw [if_neg a, if_neg a, if_neg b, if_neg b, if_neg a]
theorem su_pick14 {m i p : Nat} {F : Nat → Int} (hi : i < m) (hp : p < m) (h : i ≠ p) (hz : ∀ t, t < m → t ≠ i → t ≠ p → F t = 0) : su m F = F i + F p := by
 have e : ∀ t, t < m → F t = (if t = i then F i else 0) + (if t = p then F p else 0) := fun t ht => by
  by_cases a : t = i
  ·subst a; rw [if_pos rfl, if_neg h, Int.add_zero]
  ·by_cases b : t = p
   ·subst b; rw [if_neg a, if_pos rfl, Int.zero_add]
   ·rw [if_neg a, if_neg b, hz t ht a b]; rfl
 rw [su_congr e, su_add, su_one hi (fun k _ hk => if_neg hk), su_one hp (fun k _ hk => if_neg hk), if_pos rfl, if_pos rfl]
structure Tbl (A : Nat → Nat → Int) (m n : Nat) (f g : Nat → Nat) (by_ : Nat → Nat → Int) (d : Int) : Prop where
 nz : d ≠ 0
 de : dcl A m n f = d
 be : ∀ i j, i < m → j < n → by_ i j = dcl A m n (stf f i (g j))
 fi : ∀ i j, i < m → j < m → f i = f j → i = j
 gi : ∀ i j, i < n → j < n → g i = g j → i = j
 fg : ∀ i j, i < m → j < n → f i ≠ g j
 fl : ∀ i, i < m → f i < n + m
 gl : ∀ j, j < n → g j < n + m
 cov : ∀ c, c < n + m → (∃ i, i < m ∧ f i = c) ∨ ∃ j, j < n ∧ g j = c
def exch (by_ : Nat → Nat → Int) (d : Int) (p q : Nat) (x : Nat → Nat → Int) : Nat → Nat → Int := fun i j => if i = p then (if j = q then d else by_ p j) else if j = q then - by_ i q else x i j
theorem Tbl.start (A : Nat → Nat → Int) (m n : Nat) : Tbl A m n (fun i => n + i) (fun j => j) A 1 := by
 have e : ∀ p k, vcl A n (n + p) k = dlz p k := fun p k => by unfold vcl; rw [if_neg (by omega), Nat.add_sub_cancel_left]
 refine ⟨by decide, ?_, fun i j hi hj => ?_, fun i j _ _ h => by omega, fun i j _ _ h => h, fun i j _ _ => by omega, fun i h => by omega, fun j h => by omega, fun c hc => ?_⟩
 ·unfold dcl
  rw [det_congr (B := dlz) fun p k _ _ => e p k]
  exact det_unit m
 ·rw [dcl_st, det_congr (B := stR dlz i fun k => su m fun t => A t j * dlz t k) fun r c hr hc => ?_, det_comb dlz hi fun t => A t j, det_unit, Int.mul_one]
  unfold stR
  by_cases q : r = i
  ·rw [if_pos q, if_pos q]
   show vcl A n j c = su m fun t => A t j * dlz t c
   rw [su_dlz hc]; unfold vcl; rw [if_pos hj]
  ·rw [if_neg q, if_neg q]; exact e r c
 ·by_cases q : c < n
  ·exact .inr ⟨c, q, rfl⟩
  ·exact .inl ⟨c - n, by omega, by omega⟩
theorem Tbl.comb {A : Nat → Nat → Int} {m n : Nat} {f g : Nat → Nat} {by_ : Nat → Nat → Int} {d : Int} (h : Tbl A m n f g by_ d) {j k : Nat} (hj : j < n) (hk : k < m) : d * vcl A n (g j) k = su m fun i => by_ i j * vcl A n (f i) k := by
 rw [su_congr (g := fun i => det m (stR (fun p => vcl A n (f p)) i (vcl A n (g j))) * vcl A n (f i) k) fun i hi => by rw [h.be i j hi hj, dcl_st], cramer14 (fun p => vcl A n (f p)) (vcl A n (g j)) hk]
 rw [← h.de]
 rfl
theorem Tbl.cross {A : Nat → Nat → Int} {m n : Nat} {f g : Nat → Nat} {by_ : Nat → Nat → Int} {d : Int} (h : Tbl A m n f g by_ d) {p q i j : Nat} (hp : p < m) (hq : q < n) (hi : i < m) (hj : j < n) (hip : i ≠ p) :
  by_ p q * by_ i j - by_ i q * by_ p j = d * dcl A m n (stf (stf f p (g q)) i (g j)) := by
 obtain ⟨B, hB⟩ : ∃ B, (fun r => vcl A n (f r)) = B := ⟨_, rfl⟩
 have e0 : dcl A m n (stf (stf f p (g q)) i (g j)) = det m (stR (stR B p (vcl A n (g q))) i (vcl A n (g j))) := by
  rw [dcl_st, ← hB]
  congr 2
  funext r k
  unfold stf stR
  split <;> rfl
 have hlin : ∀ x : Nat → Int, det m (stR (stR B p (vcl A n (g q))) i fun k => su m fun t => x t * B t k) = su m fun t => x t * det m (stR (stR B p (vcl A n (g q))) i (B t)) := fun x => (det_alt m).sum hi x B m
 have h1 : d * det m (stR (stR B p (vcl A n (g q))) i (vcl A n (g j))) = su m fun t => by_ t j * det m (stR (stR B p (vcl A n (g q))) i (B t)) := by
  rw [← hlin, ← (det_alt m).mul hi]
  refine det_congr fun r k hr hk => ?_
  unfold stR
  by_cases e : r = i
  ·rw [if_pos e, if_pos e]
   show d * vcl A n (g j) k = su m fun t => by_ t j * B t k
   rw [h.comb hj hk, ← hB]
  ·rw [if_neg e, if_neg e]
 rw [e0, h1]
 have h2 : ∀ t, t < m → t ≠ i → t ≠ p → by_ t j * det m (stR (stR B p (vcl A n (g q))) i (B t)) = 0 := fun t ht h1 h2 => by
  rw [(det_alt m).same (i := t) (k := i) ht hi h1 fun k _ => by
   unfold stR
   rw [if_neg h1, if_neg h2, if_pos rfl], Int.mul_zero]
 rw [su_pick14 hi hp hip h2, det_swp B _ hp hi hip]
 have e1 : det m (stR (stR B p (vcl A n (g q))) i (B i)) = by_ p q := by
  rw [h.be p q hp hq, dcl_st, hB]
  congr 1
  funext r k
  unfold stR
  by_cases e : r = i
  ·subst e; rw [if_pos rfl, if_neg hip]
  ·rw [if_neg e]
 have e2 : det m (stR B i (vcl A n (g q))) = by_ i q := by rw [h.be i q hi hq, dcl_st, hB]
 rw [e1, e2]
 grind
theorem stf_off {f : Nat → Nat} {i c p : Nat} (h : p ≠ i) : stf f i c p = f p := if_neg h
theorem stf_at {f : Nat → Nat} {i c : Nat} : stf f i c i = c := if_pos rfl
theorem Tbl.exchange {A : Nat → Nat → Int} {m n : Nat} {f g : Nat → Nat} {by_ x : Nat → Nat → Int} {d : Int} (h : Tbl A m n f g by_ d) {p q : Nat} (hp : p < m) (hq : q < n) (hnz : by_ p q ≠ 0) (hx : ∀ i j, i < m → j < n → i ≠ p → j ≠ q → d * x i j = by_ p q * by_ i j - by_ i q * by_ p j) :
  Tbl A m n (stf f p (g q)) (stf g q (f p)) (exch by_ d p q x) (by_ p q) := by
 refine ⟨hnz, (h.be p q hp hq).symm, fun i j hi hj => ?_, fun i j hi hj e => ?_, fun i j hi hj e => ?_, fun i j hi hj e => ?_, fun i hi => ?_, fun j hj => ?_, fun c hc => ?_⟩
 ·unfold exch
  by_cases ei : i = p
  ·subst ei
   rw [if_pos rfl]
   by_cases ej : j = q
   ·subst ej
    rw [if_pos rfl, stf_at, ← h.de]
    exact dcl_congr fun r hr => by
     unfold stf
     by_cases e : r = i
     ·rw [if_pos e, e]
     ·rw [if_neg e, if_neg e]
   ·rw [if_neg ej, stf_off ej, h.be i j hi hj]
    exact dcl_congr fun r hr => by
     unfold stf
     by_cases e : r = i
     ·rw [if_pos e, if_pos e]
     ·rw [if_neg e, if_neg e, if_neg e]
  ·rw [if_neg ei]
   by_cases ej : j = q
   ·subst ej
    rw [if_pos rfl, stf_at, h.be i j hi hj, dcl_st, ← det_swp _ _ hp hi ei, dcl_st]
    congr 2
    funext r k
    unfold stf stR
    split <;> rfl
   ·rw [if_neg ej, stf_off ej]
    have h1 := hx i j hi hj ei ej
    rw [h.cross hp hq hi hj ei] at h1
    exact Int.eq_of_mul_eq_mul_left h.nz h1
 ·unfold stf at e
  by_cases a : i = p <;> by_cases b : j = p
  ·omega
  ·rw [if_pos a, if_neg b] at e; exact absurd e.symm (h.fg j q hj hq)
  ·rw [if_neg a, if_pos b] at e; exact absurd e (h.fg i q hi hq)
  ·rw [if_neg a, if_neg b] at e; exact h.fi i j hi hj e
 ·unfold stf at e
  by_cases a : i = q <;> by_cases b : j = q
  ·omega
  ·rw [if_pos a, if_neg b] at e; exact absurd e (h.fg p j hp hj)
  ·rw [if_neg a, if_pos b] at e; exact absurd e.symm (h.fg p i hp hi)
  ·rw [if_neg a, if_neg b] at e; exact h.gi i j hi hj e
 ·unfold stf at e
  by_cases a : i = p <;> by_cases b : j = q
  ·rw [if_pos a, if_pos b] at e; exact absurd e.symm (h.fg p q hp hq)
  ·rw [if_pos a, if_neg b] at e; exact b (h.gi q j hq hj e).symm
  ·rw [if_neg a, if_pos b] at e; exact a (h.fi i p hi hp e)
  ·rw [if_neg a, if_neg b] at e; exact h.fg i j hi hj e
 ·unfold stf; split
  ·exact h.gl q hq
  ·exact h.fl i hi
 ·unfold stf; split
  ·exact h.fl p hp
  ·exact h.gl j hj
 ·rcases h.cov c hc with ⟨i, hi, e⟩ | ⟨j, hj, e⟩
  ·by_cases a : i = p
   ·exact .inr ⟨q, hq, by rw [stf_at, ← a]; exact e⟩
   ·exact .inl ⟨i, hi, by rw [stf_off a]; exact e⟩
  ·by_cases b : j = q
   ·exact .inl ⟨p, hp, by rw [stf_at, ← b]; exact e⟩
   ·exact .inr ⟨j, hj, by rw [stf_off b]; exact e⟩
end Go.Proofs.YtplldfnldaehiaaGreat
