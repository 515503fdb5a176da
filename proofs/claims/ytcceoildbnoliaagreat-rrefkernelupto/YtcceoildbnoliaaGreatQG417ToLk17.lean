/-
  QG417ToLk17: G417, Like11, Lk17, joined.
-/
import Derived.Test.YtcceoildbnoliaaGreatQFa17ToFb17
import Derived.Test.YtcceoildbnoliaaGreatQCat9
import Derived.Deep.AppendLies
import Derived.Test.YtcceoildbnoliaaGreatQEach9ToPr12
import Derived.Test.YtcceoildbnoliaaGreatQTailToMWord
import Derived.Test.YtcceoildbnoliaaGreatQExt6ToRf11
import Derived.Test.YtcceoildbnoliaaGreatQDu12ToTailL

/- G417 -/
namespace Go.Proofs.YtcceoildbnoliaaGreat
open Go.RowKit
set_option linter.unusedVariables false

/-- Gathered fractions, cell by cell. -/
def Own4 (B : Nat) (w : World) (v : Value) (n : Nat) (C : Nat → Nat → Value) : Prop := w.ownsRow B 47 4 v n (cl4 n C) ∧ ∀ j, j < n → IsQ (C j)
def cat4 (n : Nat) (C D : Nat → Nat → Value) : Nat → Nat → Value := fun j => if j < n then C j else D (j - n)
theorem cl4_cat (n m : Nat) (C D : Nat → Nat → Value) : cl4 n C ++ cl4 m D = cl4 (n + m) (cat4 n C D) := by
  apply List.ext_getElem?
  intro t
  by_cases q : t < n * 4
  · obtain ⟨i, r, hr, rfl⟩ : ∃ i r, r < 4 ∧ t = i * 4 + r := ⟨t / 4, t % 4, by omega, by omega⟩
    rw [List.getElem?_append_left (by rw [cl4_len]; exact q), cl4_at (by omega) hr, cl4_at (by omega) hr]
    unfold cat4
    rw [if_pos (by omega)]
  · rw [List.getElem?_append_right (by rw [cl4_len]; omega), cl4_len]
    by_cases q2 : t < (n + m) * 4
    · obtain ⟨i, r, hr, rfl⟩ : ∃ i r, r < 4 ∧ t = i * 4 + r := ⟨t / 4, t % 4, by omega, by omega⟩
      rw [show i * 4 + r - n * 4 = (i - n) * 4 + r by omega, cl4_at (by omega) hr, cl4_at (by omega) hr]
      unfold cat4
      rw [if_neg (by omega)]
    · rw [List.getElem?_eq_none (by rw [cl4_len]; omega), List.getElem?_eq_none (by rw [cl4_len]; omega)]
theorem cl4_congr {n : Nat} {C D : Nat → Nat → Value} (h : ∀ j, j < n → C j = D j) : cl4 n C = cl4 n D := List.map_congr_left fun t ht => by
  have : t < n * 4 := by simpa using ht
  rw [h (t / 4) (by omega)]
theorem Own4.congr {B : Nat} {w : World} {v : Value} {n : Nat} {C D : Nat → Nat → Value} (h : Own4 B w v n C) (e : ∀ j, j < n → C j = D j) : Own4 B w v n D := ⟨by rw [← cl4_congr e]; exact h.1, fun j hj => by rw [← e j hj]; exact h.2 j hj⟩
theorem Own4.nil (B : Nat) (w : World) (C : Nat → Nat → Value) : Own4 B w (.slice none 0 0) 0 C := ⟨by simpa [cl4] using World.ownsRow_nil (w := w) B 47 4, fun j hj => by omega⟩
theorem Own4.now {B : Nat} {w w' : World} {v : Value} {n : Nat} {C : Nat → Nat → Value} (h : Own4 B w v n C) (hb : Below w.heap.size w w') : Own4 B w' v n C := ⟨owns_keep h.1 fun b _ hlt => hb.block b hlt, h.2⟩
theorem Own4.own {B b : Nat} {w : World} {v : Value} {n : Nat} {C : Nat → Nat → Value} (h : Own4 B w v n C) (hb : v.ownBlock = some b) : B ≤ b ∧ b < w.heap.size ∧ ∃ L, w.heap[b]? = some (.cells L 47 (0, 0)) := by
  obtain ⟨⟨_, ⟨r2, _⟩ | ⟨g2, cap, cur, r2, r3, r4, r5⟩⟩, _⟩ := h
  · rw [r2] at hb; cases hb
  · rw [r2] at hb
    simp only [Value.ownBlock, Option.some.injEq] at hb
    subst hb
    exact ⟨r3, (Array.getElem?_eq_some_iff.1 r4).1, cur, r4⟩
theorem Own4.keep {B : Nat} {w w' : World} {v : Value} {n : Nat} {C : Nat → Nat → Value} (h : Own4 B w v n C) (hk : ∀ b, v.ownBlock = some b → w'.heap[b]? = w.heap[b]?) : Own4 B w' v n C := ⟨owns_keep h.1 fun b hb _ => hk b hb, h.2⟩
theorem Own4.ty {T : TypeId} {B : Nat} {w w' : World} {v : Value} {n : Nat} {C : Nat → Nat → Value} (h : Own4 B w v n C) (ht : Ty T w w') (hT : 47 ≠ T) : Own4 B w' v n C := h.keep fun b hb => by
  obtain ⟨_, _, L, e⟩ := h.own hb
  rw [ht.2 b _ _ _ e hT, e]
theorem Own4.form {B : Nat} {w : World} {v : Value} {n : Nat} {C : Nat → Nat → Value} (h : Own4 B w v n C) : ∃ a cap, v = .slice a n cap ∧ n ≤ cap ∧ (a = none → cap = 0) ∧ (0 < n → ∃ g, a = some ⟨g, 0, none⟩ ∧ B ≤ g ∧ g < w.heap.size ∧ ∀ j r, j < n → r < 4 → w.cell? ⟨g, j * 4 + r, none⟩ = some (C j r)) := by
  have h0 := h
  obtain ⟨⟨q1, ⟨q2, q3⟩ | ⟨g, cap, cur, q2, q3, q4, q5, q6, q7, q8⟩⟩, _⟩ := h
  · exact ⟨none, 0, by rw [q2, q3], by omega, fun _ => rfl, fun q => by omega⟩
  · refine ⟨_, cap, q2, q5, (fun q => by cases q), fun _ => ⟨g, rfl, q3, (Array.getElem?_eq_some_iff.1 q4).1, fun j r hj hr => ?_⟩⟩
    have e := World.ownsRow.cells h0.1 (g := g) (by rw [q2]; rfl) _ _ (cl4_at (C := C) hj hr)
    have ea : (⟨g, 0, none⟩ : Addr).add (j * 4 + r) = ⟨g, j * 4 + r, none⟩ := by unfold Addr.add; split <;> simp_all
    rw [ea] at e
    exact e
/-- As a list that may be read. -/
theorem Own4.qs {B : Nat} {w : World} {v : Value} {n k : Nat} {C : Nat → Nat → Value} {P Q : Nat → Int} (h : Own4 B w v n C) (hn : n ≤ 1048576) (hz : ∀ j, j < n → Zi w (.agg #[C j 0, C j 1]) (P j) k ∧ Zi w (.agg #[C j 2, C j 3]) (Q j) k) : Qs w v n P Q k := by
  obtain ⟨a, cap, rfl, h1, h2, h3⟩ := h.form
  refine ⟨a, cap, rfl, h1, ⟨hn, h2⟩, ?_⟩
  by_cases q : n = 0
  · exact .inl q
  · obtain ⟨g, e1, e2, e3, e4⟩ := h3 (by omega)
    refine .inr ⟨g, 0, e1, e3, fun j hj => ?_⟩
    obtain ⟨n1, a1, l1, c1, n2, a2, l2, c2, f1, f2, f3, f4⟩ := h.2 j hj
    have g0 := e4 j 0 hj (by omega)
    have g1 := e4 j 1 hj (by omega)
    have g2 := e4 j 2 hj (by omega)
    have g3 := e4 j 3 hj (by omega)
    have zz := hz j hj
    rw [f1, f2, f3, f4] at zz
    rw [f1] at g0
    rw [f2] at g1
    rw [f3] at g2
    rw [f4] at g3
    rw [Nat.zero_add]
    exact ⟨n1, a1, l1, c1, n2, a2, l2, c2, g0, g1, g2, g3, zz.1, zz.2⟩
theorem isQ_one {n : Nat} {C : Nat → Nat → Value} (h : ∀ j, j < n → IsQ (C j)) : ∀ u ∈ cl4 n C, u.oneCell' = true := fun u hu => by
  obtain ⟨t, ht, e⟩ := List.mem_map.1 hu
  have ht' : t < n * 4 := by simpa using ht
  obtain ⟨n1, a1, l1, c1, n2, a2, l2, c2, f1, f2, f3, f4⟩ := h (t / 4) (by omega)
  subst e
  have : t % 4 = 0 ∨ t % 4 = 1 ∨ t % 4 = 2 ∨ t % 4 = 3 := by omega
  rcases this with q | q | q | q
  · rw [q, f1]; rfl
  · rw [q, f2]; rfl
  · rw [q, f3]; rfl
  · rw [q, f4]; rfl
theorem cl4_news {w : World} {b off m : Nat} {D : Nat → Nat → Value} (h : ∀ j r, j < m → r < 4 → w.cell? ⟨b, off + j * 4 + r, none⟩ = some (D j r)) : ∀ j u, (cl4 m D)[j]? = some u → w.cell? ((⟨b, off, none⟩ : Addr).add j) = some u := fun j u hj => by
  have hl := (List.getElem?_eq_some_iff.1 hj).1
  rw [cl4_len] at hl
  have ea : (⟨b, off, none⟩ : Addr).add j = ⟨b, off + j, none⟩ := by unfold Addr.add; split <;> simp_all
  obtain ⟨i, r, hr, rfl⟩ : ∃ i r, r < 4 ∧ j = i * 4 + r := ⟨j / 4, j % 4, by omega, by omega⟩
  rw [cl4_at (by omega) hr, Option.some.injEq] at hj
  rw [ea, ← hj, ← Nat.add_assoc]
  exact h i r (by omega) hr
/-- append of a list of fractions. -/
theorem wpList_append_four (w : World) {ops : Array Oper} {rest : List Oper} {o : Oper} {a : Act} {Q : Exit → Act → World → Prop}
    (hgd : o.guard = none) (s x : Operand) (hop : o.op = .call { callee := .builtin .append, args := #[s, x], argTypes := #[22, 22] })
    (B n m cx b off : Nat) (v : Value) (C D : Nat → Nat → Value) (hs : a.eval s = v) (hB : Own4 B w v n C) (hx : a.eval x = .slice (some ⟨b, off, none⟩) m cx) (hc : ∀ j r, j < m → r < 4 → w.cell? ⟨b, off + j * 4 + r, none⟩ = some (D j r)) (hD : ∀ j, j < m → IsQ (D j)) (hm : 0 < m) (hlen : n + m ≤ 1048576) (hBs : B ≤ w.heap.size)
    (hK : ∀ g' cap' w' l', Hid (l' = n + m) → Hid (Own4 B w' (.slice (some ⟨g', 0, none⟩) l' cap') (n + m) (cat4 n C D)) → Hid (w.grownBy w' v.ownBlock) → Hid (v.ownBlock = some g' ∨ g' = w.heap.size) → wpList Tryz.prog ops Q rest (a.put o.dst (.slice (some ⟨g', 0, none⟩) l' cap')) w') :
    wpList Tryz.prog ops Q (o :: rest) a w := by
  obtain ⟨i, hi, hz, hsz, hby⟩ := info_parts Tryz.infoF17
  refine wpList_append_lies w hgd s x 22 hop B 47 i (.agg #[.bool false, .slice none 0 0, .bool false, .slice none 0 0]) 4 64 Tryz.underlying22 hi hz hsz hby rfl (by omega) v n (cl4 n C) hs hB.1 ⟨b, off, none⟩ m cx (cl4 m D) hx (cl4_len m D) (cl4_news hc) (isQ_one hD) hm (by unfold maxLen; omega) (by omega) hBs w.heap.size rfl ?_
  intro g' cap' w' k1 k2 k3 k4
  refine hK _ _ w' _ rfl ⟨by rw [← cl4_cat]; exact k1, fun j hj => ?_⟩ k2 k3
  unfold cat4
  by_cases q : j < n
  · rw [if_pos q]; exact hB.2 j q
  · rw [if_neg q]; exact hD _ (by omega)
theorem step_append_four (w : World) {ops : Array Oper} {o : Oper} {a : Act} {K : Act → World → Prop} {Q : Exit → Act → World → Prop} {E : Prop}
    (hgd : o.guard = none) (s x : Operand) (hop : o.op = .call { callee := .builtin .append, args := #[s, x], argTypes := #[22, 22] })
    (B n m cx b off : Nat) (v : Value) (C D : Nat → Nat → Value) (hs : a.eval s = v) (hB : Own4 B w v n C) (hx : a.eval x = .slice (some ⟨b, off, none⟩) m cx) (hc : ∀ j r, j < m → r < 4 → w.cell? ⟨b, off + j * 4 + r, none⟩ = some (D j r)) (hD : ∀ j, j < m → IsQ (D j)) (hm : 0 < m) (hlen : n + m ≤ 1048576) (hBs : B ≤ w.heap.size)
    (hK : ∀ g' cap' w' l', Hid (l' = n + m) → Hid (Own4 B w' (.slice (some ⟨g', 0, none⟩) l' cap') (n + m) (cat4 n C D)) → Hid (w.grownBy w' v.ownBlock) → Hid (v.ownBlock = some g' ∨ g' = w.heap.size) → K (a.put o.dst (.slice (some ⟨g', 0, none⟩) l' cap')) w') :
    if Region.wanted o (yielded ops a.tmps) = true then Oper.wp Tryz.prog o a w K Q else E := by
  obtain ⟨i, hi, hz, hsz, hby⟩ := info_parts Tryz.infoF17
  refine step_append_lies w hgd s x 22 hop B 47 i (.agg #[.bool false, .slice none 0 0, .bool false, .slice none 0 0]) 4 64 Tryz.underlying22 hi hz hsz hby rfl (by omega) v n (cl4 n C) hs hB.1 ⟨b, off, none⟩ m cx (cl4 m D) hx (cl4_len m D) (cl4_news hc) (isQ_one hD) hm (by unfold maxLen; omega) (by omega) hBs w.heap.size rfl ?_
  intro g' cap' w' k1 k2 k3 k4
  refine hK _ _ w' _ rfl ⟨by rw [← cl4_cat]; exact k1, fun j hj => ?_⟩ k2 k3
  unfold cat4
  by_cases q : j < n
  · rw [if_pos q]; exact hB.2 j q
  · rw [if_neg q]; exact hD _ (by omega)
theorem Own4.below {B : Nat} {w0 w w' : World} {v : Value} {n : Nat} {C : Nat → Nat → Value} (hb : Below B w0 w) (h : Own4 B w v n C) (hg : w.grownBy w' v.ownBlock) (hB : B ≤ w.heap.size) : Below B w0 w' :=
  hb.trans ⟨hg.os, hg.tape, hg.output, hg.size, fun b hlt => hg.block b (by omega) (fun e => by have := (h.own e.symm).1; omega)⟩
end Go.Proofs.YtcceoildbnoliaaGreat

/- Like11 -/
namespace Go.Proofs.YtcceoildbnoliaaGreat
open Go.RowKit
set_option linter.unusedVariables false

set_option maxHeartbeats 1600000 in
set_option maxRecDepth 100000 in
theorem like_yes {w : World} {v u : Value} {z y : Int} {k l : Nat} (h : Zc w v z k) (h' : Zc w u y l) (hzy : z = y) :
    Calls Tryz.prog 108 #[v, u] w fun e w' => e = .returned (.bool true) ∧ Below w.heap.size w w' := by
  subst hzy
  obtain ⟨n, xs, a, c, rfl, s0, q0, e0, z0, k0⟩ := h
  obtain ⟨m, ys, b, d, rfl, s1, q1, e1, z1, k1⟩ := h'
  obtain ⟨rfl, rfl⟩ := iv_one (z0.trans z1.symm) q0 q1 e0 e1
  obtain ⟨W0, hW⟩ : ∃ W0, (w.alloc (duo (.bool n) (.slice a xs.length c))).alloc (duo (.bool n) (.slice b xs.length d)) = W0 := ⟨_, rfl⟩
  have b0 := (alloc2 w (duo (.bool n) (.slice a xs.length c)) (duo (.bool n) (.slice b xs.length d))).1
  rw [hW] at b0
  have P2 : Hid (Duo W0 w.heap.size (.bool n) (.slice a xs.length c)) := by unfold Hid; rw [← hW]; exact (Duo.new w _ _).later (by simp) _
  have P3 : Hid (Duo W0 (w.heap.size + 1) (.bool n) (.slice b xs.length d)) := by
    unfold Hid
    rw [← hW]
    have := Duo.new (w.alloc (duo (.bool n) (.slice a xs.length c))) (.bool n) (.slice b xs.length d)
    simpa using this
  have HC := hid (same_yes (s0.now b0) (s1.now b0) rfl)
  have B0 := hid b0
  have x0 := P2.out.c0
  have y0 := P3.out.c0
  have x1 := P2.out.c1
  have y1 := P3.out.c1
  rw [← hW] at x0 y0 x1 y1
  have EW := hid hW
  have hq : (n == n) = true := by simp
  clear s0 s1 z0 z1 b0 q0 q1 e0 e1 hW
  go_enter Tryz.func108, Tryz.ntmps108
  go_wp2_with fail
  rw [EW.out]
  refine HC.out.mono ?_
  rintro e w1 ⟨rfl, b1⟩
  have B1 := hid (below_step B0.out b1)
  clear b1 HC x0 y0 x1 y1 EW
  go_wp2
  go_ret
  exact ⟨rfl, B1.out⟩
instance snd11 (r c : Int) (l : Nat) : Decidable (Snd r c l) := by unfold Snd; infer_instance
end Go.Proofs.YtcceoildbnoliaaGreat

/- Lk17 -/
namespace Go.Proofs.YtcceoildbnoliaaGreat
open Go.RowKit
set_option linter.unusedVariables false
set_option linter.unusedSimpArgs false

/-- A list of fractions in lowest terms. -/
def Qc (w : World) (v : Value) (n : Nat) (R : Nat → Rat) (k : Nat) : Prop :=
  ∃ a c, v = .slice a n c ∧ n ≤ c ∧ (n ≤ 1048576 ∧ (a = none → c = 0)) ∧ (n = 0 ∨ ∃ b off, a = some ⟨b, off, none⟩ ∧ b < w.heap.size ∧ ∀ j, j < n → ∃ n1 a1 l1 c1 n2 a2 l2 c2, w.cell? ⟨b, off + j * 4, none⟩ = some (.bool n1) ∧ w.cell? ⟨b, off + j * 4 + 1, none⟩ = some (.slice a1 l1 c1) ∧ w.cell? ⟨b, off + j * 4 + 2, none⟩ = some (.bool n2) ∧ w.cell? ⟨b, off + j * 4 + 3, none⟩ = some (.slice a2 l2 c2) ∧ Zc w (.agg #[.bool n1, .slice a1 l1 c1]) (R j).num k ∧ Zc w (.agg #[.bool n2, .slice a2 l2 c2]) ((R j).den : Int) k)
theorem Qc.now {w w' : World} {v : Value} {n k : Nat} {R : Nat → Rat} (h : Qc w v n R k) (hb : Below w.heap.size w w') : Qc w' v n R k := by
  obtain ⟨a, c, h1, h2, h3, h4⟩ := h
  refine ⟨a, c, h1, h2, h3, ?_⟩
  rcases h4 with h4 | ⟨b, off, h5, h6, h7⟩
  · exact .inl h4
  · refine .inr ⟨b, off, h5, Nat.lt_of_lt_of_le h6 hb.size, fun j hj => ?_⟩
    obtain ⟨n1, a1, l1, c1, n2, a2, l2, c2, e1, e2, e3, e4, e5, e6⟩ := h7 j hj
    exact ⟨n1, a1, l1, c1, n2, a2, l2, c2, cnow hb e1, cnow hb e2, cnow hb e3, cnow hb e4, e5.now hb, e6.now hb⟩
theorem Qc.qs {w : World} {v : Value} {n k : Nat} {R : Nat → Rat} (h : Qc w v n R k) : Qs w v n (fun j => (R j).num) (fun j => ((R j).den : Int)) k := by
  obtain ⟨a, c, h1, h2, h3, h4⟩ := h
  refine ⟨a, c, h1, h2, h3, ?_⟩
  rcases h4 with h4 | ⟨b, off, h5, h6, h7⟩
  · exact .inl h4
  · refine .inr ⟨b, off, h5, h6, fun j hj => ?_⟩
    obtain ⟨n1, a1, l1, c1, n2, a2, l2, c2, e1, e2, e3, e4, e5, e6⟩ := h7 j hj
    exact ⟨n1, a1, l1, c1, n2, a2, l2, c2, e1, e2, e3, e4, e5.zi, e6.zi⟩
theorem Qc.form {w : World} {v : Value} {n k : Nat} {R : Nat → Rat} (h : Qc w v n R k) : ∃ a c, v = .slice a n c ∧ n ≤ 1048576 ∧ (0 < n → ∃ b off, a = some ⟨b, off, none⟩) := by
  obtain ⟨a, c, h1, h2, h3, h4⟩ := h
  refine ⟨a, c, h1, h3.1, fun q => ?_⟩
  rcases h4 with h4 | ⟨b, off, h5, h6, h7⟩
  · omega
  · exact ⟨b, off, h5⟩
theorem Qc.at {w : World} {b off n l c k j : Nat} {R : Nat → Rat} (h : Qc w (.slice (some ⟨b, off, none⟩) l c) n R k) (hj : j < n) : ∃ n1 a1 l1 c1 n2 a2 l2 c2, w.cell? ⟨b, off + j * 4, none⟩ = some (.bool n1) ∧ w.cell? ⟨b, off + j * 4 + 1, none⟩ = some (.slice a1 l1 c1) ∧ w.cell? ⟨b, off + j * 4 + 2, none⟩ = some (.bool n2) ∧ w.cell? ⟨b, off + j * 4 + 3, none⟩ = some (.slice a2 l2 c2) ∧ Zc w (.agg #[.bool n1, .slice a1 l1 c1]) (R j).num k ∧ Zc w (.agg #[.bool n2, .slice a2 l2 c2]) ((R j).den : Int) k := by
  obtain ⟨a', c', h1, h2, h3, h4⟩ := h
  simp only [Value.slice.injEq] at h1
  obtain ⟨rfl, -, -⟩ := h1
  rcases h4 with h4 | ⟨b', off', h5, h6, h7⟩
  · omega
  · simp only [Option.some.injEq, Addr.mk.injEq, and_true] at h5
    obtain ⟨rfl, rfl⟩ := h5
    exact h7 j hj
theorem FilQ.qc {w : World} {g n k : Nat} {R : Nat → Rat} (h : FilQ w g n n R k) (hn : n ≤ 1048576) : Qc w (.slice (some ⟨g, 0, none⟩) n n) n R k := by
  refine ⟨_, _, rfl, Nat.le_refl _, ⟨hn, fun q => by cases q⟩, .inr ⟨g, 0, rfl, h.blk, fun j hj => ?_⟩⟩
  obtain ⟨n1, a1, l1, c1, n2, a2, l2, c2, e1, e2, e3, e4, -, -, -, -, e5⟩ := h.cells hj
  rw [Nat.zero_add]
  exact ⟨n1, a1, l1, c1, n2, a2, l2, c2, e1, e2, e3, e4, (e5 hj).1.zc, (e5 hj).2.zc⟩
theorem Own4.qc {B : Nat} {w : World} {v : Value} {n k : Nat} {C : Nat → Nat → Value} {R : Nat → Rat} (h : Own4 B w v n C) (hn : n ≤ 1048576) (hz : ∀ j, j < n → Zm 0 w (.agg #[C j 0, C j 1]) (R j).num k ∧ Zm 0 w (.agg #[C j 2, C j 3]) ((R j).den : Int) k) : Qc w v n R k := by
  obtain ⟨a, cap, rfl, h1, h2, h3⟩ := h.form
  refine ⟨a, cap, rfl, h1, ⟨hn, h2⟩, ?_⟩
  by_cases q : n = 0
  · exact .inl q
  · obtain ⟨g, e1, e2, e3, e4⟩ := h3 (by omega)
    refine .inr ⟨g, 0, e1, e3, fun j hj => ?_⟩
    obtain ⟨n1, a1, l1, c1, n2, a2, l2, c2, f1, f2, f3, f4⟩ := h.2 j hj
    have g0 := e4 j 0 hj (by omega)
    have g1 := e4 j 1 hj (by omega)
    have g2 := e4 j 2 hj (by omega)
    have g3 := e4 j 3 hj (by omega)
    have zz := hz j hj
    rw [f1, f2, f3, f4] at zz
    rw [f1] at g0
    rw [f2] at g1
    rw [f3] at g2
    rw [f4] at g3
    rw [Nat.zero_add]
    exact ⟨n1, a1, l1, c1, n2, a2, l2, c2, g0, g1, g2, g3, zz.1.zc, zz.2.zc⟩
theorem Qc.congr {w : World} {v : Value} {n k : Nat} {R R' : Nat → Rat} (h : Qc w v n R k) (e : ∀ j, j < n → R j = R' j) : Qc w v n R' k := by
  obtain ⟨a, c, h1, h2, h3, h4⟩ := h
  refine ⟨a, c, h1, h2, h3, ?_⟩
  rcases h4 with h4 | ⟨b, off, h5, h6, h7⟩
  · exact .inl h4
  · refine .inr ⟨b, off, h5, h6, fun j hj => ?_⟩
    rw [← e j hj]
    exact h7 j hj
set_option maxHeartbeats 1600000 in
set_option maxRecDepth 100000 in
theorem likeF17 {w : World} {n1 n2 m1 m2 : Bool} {a1 a2 d1 d2 : Option Addr} {l1 c1 l2 c2 x1 y1 x2 y2 k l : Nat} {q : Rat} (h1 : Zc w (.agg #[.bool n1, .slice a1 l1 c1]) q.num k) (h2 : Zc w (.agg #[.bool n2, .slice a2 l2 c2]) (q.den : Int) k) (h3 : Zc w (.agg #[.bool m1, .slice d1 x1 y1]) q.num l) (h4 : Zc w (.agg #[.bool m2, .slice d2 x2 y2]) (q.den : Int) l) :
    Calls Tryz.prog 79 #[.agg #[.bool n1, .slice a1 l1 c1, .bool n2, .slice a2 l2 c2], .agg #[.bool m1, .slice d1 x1 y1, .bool m2, .slice d2 x2 y2]] w fun e w' => e = .returned (.bool true) ∧ Below w.heap.size w w' := by
  obtain ⟨W0, hW⟩ : ∃ W0, (w.alloc (.cells #[.bool n1, .slice a1 l1 c1, .bool n2, .slice a2 l2 c2] 47)).alloc (.cells #[.bool m1, .slice d1 x1 y1, .bool m2, .slice d2 x2 y2] 47) = W0 := ⟨_, rfl⟩
  obtain ⟨b0, sz0⟩ := alloc2 w (.cells #[.bool n1, .slice a1 l1 c1, .bool n2, .slice a2 l2 c2] 47) (.cells #[.bool m1, .slice d1 x1 y1, .bool m2, .slice d2 x2 y2] 47)
  rw [hW] at b0 sz0
  have CA : Hid (Cel W0 w.heap.size 47 [.bool n1, .slice a1 l1 c1, .bool n2, .slice a2 l2 c2]) := by unfold Hid; rw [← hW]; exact (Cel.new w _ _).step (alo1 _ _).1
  have CB : Hid (Cel W0 (w.heap.size + 1) 47 [.bool m1, .slice d1 x1 y1, .bool m2, .slice d2 x2 y2]) := by
    unfold Hid; rw [← hW]
    have := Cel.new (w.alloc (.cells #[.bool n1, .slice a1 l1 c1, .bool n2, .slice a2 l2 c2] 47)) 47 [.bool m1, .slice d1 x1 y1, .bool m2, .slice d2 x2 y2]
    simpa using this
  have H1 := hid (like_yes (h1.now b0) (h3.now b0) rfl)
  have H2 : Hid (∀ {w' : World}, Below W0.heap.size W0 w' → Calls Tryz.prog 108 #[.agg #[.bool n2, .slice a2 l2 c2], .agg #[.bool m2, .slice d2 x2 y2]] w' _) := fun hb => like_yes ((h2.now b0).now hb) ((h4.now b0).now hb) rfl
  have B0 := hid b0
  have EW := hid hW
  have u0 := CA.out.at (i := 0) rfl
  have u1 := CA.out.at (i := 1) rfl
  have v0 := CB.out.at (i := 0) rfl
  have v1 := CB.out.at (i := 1) rfl
  rw [← hW] at u0 u1 v0 v1
  clear b0 sz0 hW h1 h2 h3 h4
  go_enter Tryz.func79, Tryz.ntmps79
  go_wp2_with fail
  rw [EW.out]
  refine H1.out.mono ?_
  rintro e w1 ⟨rfl, b1⟩
  have H3 := hid (H2.out b1)
  have u2 := (CA.out.step b1).at (i := 2) rfl
  have u3 := (CA.out.step b1).at (i := 3) rfl
  have v2 := (CB.out.step b1).at (i := 2) rfl
  have v3 := (CB.out.step b1).at (i := 3) rfl
  have B1 := hid (below_step B0.out b1)
  clear H1 H2 b1 u0 u1 v0 v1 EW CA CB B0
  go_wp2_with fail
  refine H3.out.mono ?_
  rintro e w2 ⟨rfl, b2⟩
  have B2 := hid (below_step B1.out b2)
  clear H3 b2 B1 u2 u3 v2 v3
  go_wp2
  go_ret
  exact ⟨rfl, B2.out⟩
def LkH (w : World) (n gk : Nat) (s : Value) (wx : World) : Prop := ∃ i : Nat, s = .int .i64 (i : Int) ∧ i ≤ n ∧ gk = n - i ∧ Below w.heap.size w wx
set_option maxHeartbeats 1600000 in
set_option maxRecDepth 100000 in
theorem likeRow17 {w : World} {va vb : Value} {n k l : Nat} {R R' : Nat → Rat} (ha : Qc w va n R k) (hb : Qc w vb n R' l) (he : ∀ j, j < n → R j = R' j) :
    Calls Tryz.prog 44 #[va, vb] w fun e w' => e = .returned (.bool true) ∧ Below w.heap.size w w' := by
  replace hb := hb.congr (R' := R) fun j hj => (he j hj).symm
  have HA := hid ha
  have HB := hid hb
  obtain ⟨aa, ca, rfl, hn, hfa⟩ := ha.form
  obtain ⟨ab, cb, rfl, -, hfb⟩ := hb.form
  have FA := hid hfa
  have FB := hid hfb
  have H0 : Hid (LkH w n n (.int .i64 0) w) := ⟨0, rfl, Nat.zero_le _, rfl, Below.refl _ _⟩
  have hne : ((n : Int) != (n : Int)) = false := by simp
  clear ha hb hfa hfb he
  go_enter Tryz.func44, Tryz.ntmps44
  go_wp2_with fail
  go_loopg [5] n (fun gk s5 wx => LkH w n gk s5 wx)
  case atStart => exact H0.out
  case round =>
    clear H0
    obtain ⟨i, rfl, hi, hg, hbw⟩ := hrel
    have G := hid hbw
    have HG := hid hg
    clear hbw hg
    by_cases hlt : i < n
    · have hlt' : (i : Int) < (n : Int) := by omega
      have hwi := wrapI9 (i := i) (by omega)
      obtain ⟨ba, oa, rfl⟩ := FA.out (by omega)
      obtain ⟨bb, ob, rfl⟩ := FB.out (by omega)
      obtain ⟨n1, a1, l1, c1, n2, a2, l2, c2, e1, e2, e3, e4, z1, z2⟩ := (HA.out.now G.out).at hlt
      obtain ⟨m1, d1, x1, y1, m2, d2, x2, y2, f1, f2, f3, f4, z3, z4⟩ := (HB.out.now G.out).at hlt
      have Z1 := hid z1
      have Z2 := hid z2
      have Z3 := hid z3
      have Z4 := hid z4
      have HMM : Hid (n - (i + 1) < gk) := by unfold Hid; rw [HG.out]; omega
      clear z1 z2 z3 z4 HG
      go_wp2_with fail
      have KB : Hid (∀ w', Below wr.heap.size wr w' → w'.cell? ⟨ba, oa + i * 4, none⟩ = some (.bool n1) ∧ w'.cell? ⟨ba, oa + i * 4 + 1, none⟩ = some (.slice a1 l1 c1) ∧ w'.cell? ⟨ba, oa + i * 4 + 2, none⟩ = some (.bool n2) ∧ w'.cell? ⟨ba, oa + i * 4 + 3, none⟩ = some (.slice a2 l2 c2) ∧ w'.cell? ⟨bb, ob + i * 4, none⟩ = some (.bool m1) ∧ w'.cell? ⟨bb, ob + i * 4 + 1, none⟩ = some (.slice d1 x1 y1) ∧ w'.cell? ⟨bb, ob + i * 4 + 2, none⟩ = some (.bool m2) ∧ w'.cell? ⟨bb, ob + i * 4 + 3, none⟩ = some (.slice d2 x2 y2)) := fun w' h => ⟨cnow h e1, cnow h e2, cnow h e3, cnow h e4, cnow h f1, cnow h f2, cnow h f3, cnow h f4⟩
      refine wp_region_tail (fun w' => w'.cell? ⟨ba, oa + i * 4, none⟩ = some (.bool n1) ∧ w'.cell? ⟨ba, oa + i * 4 + 1, none⟩ = some (.slice a1 l1 c1) ∧ w'.cell? ⟨ba, oa + i * 4 + 2, none⟩ = some (.bool n2) ∧ w'.cell? ⟨ba, oa + i * 4 + 3, none⟩ = some (.slice a2 l2 c2) ∧ w'.cell? ⟨bb, ob + i * 4, none⟩ = some (.bool m1) ∧ w'.cell? ⟨bb, ob + i * 4 + 1, none⟩ = some (.slice d1 x1 y1) ∧ w'.cell? ⟨bb, ob + i * 4 + 2, none⟩ = some (.bool m2) ∧ w'.cell? ⟨bb, ob + i * 4 + 3, none⟩ = some (.slice d2 x2 y2)) 9 (by kernel_rfl) ?_
      obtain ⟨D1, hD⟩ : ∃ D1, wr.drew = D1 := ⟨_, rfl⟩
      have GB : Hid (Below wr.heap.size wr D1) := by unfold Hid; rw [← hD]; exact (Below.refl _ _).drew
      rw [hD]
      clear hD
      refine wpAnyT_list [(0, (.slice (some ⟨ba, oa, none⟩) n ca)), (1, (.int .i64 (i : Int))), (2, (.pointer (some ⟨ba, oa + i * 4, none⟩))), (3, (.agg #[.bool n1, .slice a1 l1 c1, .bool n2, .slice a2 l2 c2])), (4, (.slice (some ⟨bb, ob, none⟩) n cb)), (5, (.int .i64 (i : Int))), (6, (.pointer (some ⟨bb, ob + i * 4, none⟩))), (7, (.agg #[.bool m1, .slice d1 x1 y1, .bool m2, .slice d2 x2 y2]))] 8 ?_ (KB.out _ GB.out) ?_
      · simp only [TakesV, gA9, g09, g19, Act.put, sI9, s09, s19]
        (repeat' (first | exact trivial | refine And.intro (Or.inl ⟨by rfl, ?_⟩) ?_)) <;> (intro w hSw; (try dsimp only at hSw); go_simp)
      simp only [actV, gA9, g09, g19, Act.put, sI9, s09, s19]
      refine wpAnyT_one (i := 8) (o := { dst := some 25, op := Op.call { callee := Callee.value (Operand.func 79), args := #[Operand.tmp 20, Operand.tmp 24], argTypes := #[47, 47] }, type := 4, pos := "keep.go:22", after := #[{ on := 3, ground := Ground.data }, { on := 7, ground := Ground.data }], guard := none }) (by kernel_rfl) rfl (fun K hK => ?_)
      go_simp
      go_at_call 79
      refine (likeF17 (Z1.out.now GB.out) (Z2.out.now GB.out) (Z3.out.now GB.out) (Z4.out.now GB.out)).mono ?_
      rintro e w2 ⟨rfl, b⟩
      have lz2 := (show Below _ _ _ from b).size
      replace GB := hid (below_step GB.out b)
      clear b
      refine hK.out _ _ (fun _ => KB.out _ GB.out) ?_
      clear hK
      refine wpAnyT_one (i := 9) (o := { dst := some 26, op := Op.unOp UnOp.not 4 (Operand.tmp 25), type := 4, pos := "keep.go:22", after := #[{ on := 8, ground := Ground.data }], guard := none }) (by kernel_rfl) rfl (fun K hK => ?_)
      go_simp
      refine hK.out _ _ (fun h => absurd h (by decide)) ?_
      clear hK
      try simp only [Act.put]
      refine wpAnyT_done (by kernel_rfl) ?_ _
      have HN1 : Hid (LkH w n (n - (i + 1)) (.int .i64 ((i + 1 : Nat) : Int)) w2) := ⟨i + 1, rfl, by omega, rfl, below_step G.out GB.out⟩
      clear GB KB G Z1 Z2 Z3 Z4 e1 e2 e3 e4 f1 f2 f3 f4
      go_wp2_with fail
      go_roundg (n - (i + 1))
      case rel => exact HN1.out
      case measure => exact HMM.out
    · have hlt' : ¬ (i : Int) < (n : Int) := by omega
      clear HG
      go_wp2
      go_ret
      exact ⟨rfl, G.out⟩
set_option maxHeartbeats 1600000 in
set_option maxRecDepth 100000 in
theorem likeMat17 {w : World} {va vb : Value} {r c n k l : Nat} {R R' : Nat → Rat} (ha : Qc w va n R k) (hb : Qc w vb n R' l) (he : ∀ j, j < n → R j = R' j) :
    Calls Tryz.prog 14 #[qmv r c va, qmv r c vb] w fun e w' => e = .returned (.bool true) ∧ Below w.heap.size w w' := by
  obtain ⟨aa, ca, rfl, -, -⟩ := ha.form
  obtain ⟨ab, cb, rfl, -, -⟩ := hb.form
  obtain ⟨W0, hW⟩ : ∃ W0, (w.alloc (.cells #[.int .i64 (r : Int), .int .i64 (c : Int), .slice aa n ca] 24)).alloc (.cells #[.int .i64 (r : Int), .int .i64 (c : Int), .slice ab n cb] 24) = W0 := ⟨_, rfl⟩
  obtain ⟨b0, sz0⟩ := alloc2 w (.cells #[.int .i64 (r : Int), .int .i64 (c : Int), .slice aa n ca] 24) (.cells #[.int .i64 (r : Int), .int .i64 (c : Int), .slice ab n cb] 24)
  rw [hW] at b0 sz0
  have CA : Hid (Cel W0 w.heap.size 24 [.int .i64 (r : Int), .int .i64 (c : Int), .slice aa n ca]) := by unfold Hid; rw [← hW]; exact (Cel.new w _ _).step (alo1 _ _).1
  have CB : Hid (Cel W0 (w.heap.size + 1) 24 [.int .i64 (r : Int), .int .i64 (c : Int), .slice ab n cb]) := by
    unfold Hid; rw [← hW]
    have := Cel.new (w.alloc (.cells #[.int .i64 (r : Int), .int .i64 (c : Int), .slice aa n ca] 24)) 24 [.int .i64 (r : Int), .int .i64 (c : Int), .slice ab n cb]
    simpa using this
  have H1 := hid (likeRow17 (ha.now b0) (hb.now b0) he)
  have B0 := hid b0
  have EW := hid hW
  have u0 := CA.out.at (i := 0) rfl
  have u1 := CA.out.at (i := 1) rfl
  have u2 := CA.out.at (i := 2) rfl
  have v0 := CB.out.at (i := 0) rfl
  have v1 := CB.out.at (i := 1) rfl
  have v2 := CB.out.at (i := 2) rfl
  rw [← hW] at u0 u1 u2 v0 v1 v2
  have hrr : ((r : Int) == (r : Int)) = true := by simp
  have hcc : ((c : Int) == (c : Int)) = true := by simp
  clear b0 sz0 hW ha hb he CA CB
  show Calls Tryz.prog 14 #[.agg #[.int .i64 (r : Int), .int .i64 (c : Int), .slice aa n ca], .agg #[.int .i64 (r : Int), .int .i64 (c : Int), .slice ab n cb]] w _
  go_enter Tryz.func14, Tryz.ntmps14
  go_wp2_with fail
  rw [EW.out]
  refine H1.out.mono ?_
  rintro e w1 ⟨rfl, b1⟩
  have B1 := hid (below_step B0.out b1)
  clear H1 b1 u0 u1 u2 v0 v1 v2 EW B0
  go_wp2
  go_ret
  exact ⟨rfl, B1.out⟩
end Go.Proofs.YtcceoildbnoliaaGreat
