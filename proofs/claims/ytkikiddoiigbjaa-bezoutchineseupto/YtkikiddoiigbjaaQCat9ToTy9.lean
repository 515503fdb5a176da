/-
  QCat9ToTy9: Cat9, Ty9, joined.
-/
import Derived.Test.YtkikiddoiigbjaaQFil9ToRowsOf9
import Derived.Lib.AppendZeros
import Derived.Laws.AppendOwnNone

/- Cat9 -/
namespace Go.Proofs.Ytkikiddoiigbjaa
open Go.RowKit
set_option linter.unusedVariables false

theorem owns_keep {w w' : World} {base : Nat} {e : TypeId} {size : Nat} {v : Value} {n : Nat} {xs : List Value} (h : w.ownsRow base e size v n xs) (hk : ∀ b, v.ownBlock = some b → b < w.heap.size → w'.heap[b]? = w.heap[b]?) : w'.ownsRow base e size v n xs := by
  obtain ⟨q1, q2 | ⟨g, cap, cur, q2, q3, q4, q5⟩⟩ := h
  · exact ⟨q1, .inl q2⟩
  · exact ⟨q1, .inr ⟨g, cap, cur, q2, q3, (hk g (by rw [q2]; rfl) (Array.getElem?_eq_some_iff.1 q4).1).trans q4, q5⟩⟩
/-- Gathered pairs as a list. -/
theorem owns_prs {w : World} {B : Nat} {v : Value} {ps : List (Value × Value)} (h : w.ownsRow B 25 2 v ps.length (flat ps)) (hl : ps.length ≤ 1048576) : Prs B w v ps := by
  have h1' := h
  obtain ⟨q1, ⟨q2, q3⟩ | ⟨g, cap, cur, q2, q3, q4, q5, q6⟩⟩ := h
  · rw [q2]
    have : ps = [] := List.eq_nil_of_length_eq_zero q3
    subst this
    exact Prs.nil _ _
  · refine ⟨_, cap, q2, q5, hl, (fun q => by cases q), .inr ⟨g, 0, rfl, q3, (Array.getElem?_eq_some_iff.1 q4).1, fun j p hp => ?_⟩⟩
    have ea : ∀ j, (⟨g, 0, none⟩ : Addr).add j = ⟨g, j, none⟩ := fun j => by unfold Addr.add; split <;> simp_all
    have c0 := World.ownsRow.cells h1' (g := g) (by rw [q2]; rfl) _ _ (flat_get hp).1
    have c1 := World.ownsRow.cells h1' (g := g) (by rw [q2]; rfl) _ _ (flat_get hp).2
    rw [ea] at c0 c1
    rw [Nat.zero_add]
    exact ⟨c0, c1⟩
theorem isI_one {ps : List (Value × Value)} (h : ∀ p ∈ ps, IsI p) : ∀ u ∈ flat ps, u.oneCell' = true := by
  induction ps with
  | nil => intro u hu; simp [flat] at hu
  | cons p r ih =>
    intro u hu
    obtain ⟨n, a, l, c, e⟩ := h p (by simp)
    simp only [flat, List.mem_cons] at hu
    rw [e] at hu
    rcases hu with rfl | rfl | hu
    · rfl
    · rfl
    · exact ih (fun q hq => h q (by simp [hq])) u hu
/-- Gathered pairs, in memory from block B on that is its own. -/
def OwnP (B : Nat) (w : World) (v : Value) (ps : List (Value × Value)) : Prop := w.ownsRow B 25 2 v ps.length (flat ps)
/-- append of a list of pairs onto gathered ones. -/
theorem wpList_append_pairs (w : World) {ops : Array Oper} {rest : List Oper} {o : Oper} {a : Act} {Q : Exit → Act → World → Prop}
    (hgd : o.guard = none) (s x : Operand) (hop : o.op = .call { callee := .builtin .append, args := #[s, x], argTypes := #[22, 22] })
    (B : Nat) (v u : Value) (ps qs : List (Value × Value)) (hs : a.eval s = v) (hB : OwnP B w v ps) (hx : a.eval x = u) (B' : Nat) (hu : Prs B' w u qs) (hi : ∀ p ∈ qs, IsI p) (hlen : ps.length + qs.length ≤ 1048576) (hBs : B ≤ w.heap.size)
    (hK : ∀ v' w', OwnP B w' v' (ps ++ qs) → Hid (w.grownBy w' v.ownBlock) → wpList Try.prog ops Q rest (a.put o.dst v') w') :
    wpList Try.prog ops Q (o :: rest) a w := by
  obtain ⟨i, hii, hz, hsz, hby⟩ := info_parts Try.infoZ9
  obtain ⟨au, cu, rfl, h2, h3, hn, h4⟩ := hu
  rcases au with _ | ad
  · have e : qs = [] := by
      rcases h4 with h4 | ⟨b, off, q, _⟩
      · exact h4
      · cases q
    subst e
    have := hn rfl
    subst this
    refine wpList_append_own_none hgd s x 22 hop B 25 i 2 Try.underlying22 hii v ps.length (flat ps) hs hB hx ?_
    have := hK v w (by simpa using hB) ⟨rfl, rfl, rfl, Nat.le_refl _, fun _ _ _ => rfl⟩
    exact this
  · refine wpList_plain hgd fun K hK' => ?_
    have hnews : ∀ j y, (flat qs)[j]? = some y → w.cell? (ad.add j) = some y := fun j y hj => by
      have hjl := (List.getElem?_eq_some_iff.1 hj).1
      rw [flat_length] at hjl
      rcases h4 with rfl | ⟨b, off, q, _, _, hc⟩
      · simp at hjl
      · obtain rfl : ad = ⟨b, off, none⟩ := by simpa using q
        have ea : ∀ j, (⟨b, off, none⟩ : Addr).add j = ⟨b, off + j, none⟩ := fun j => by unfold Addr.add; split <;> simp_all
        rw [ea]
        have hp : qs[j / 2]? = some (qs[j / 2]'(by omega)) := List.getElem?_eq_getElem (by omega)
        have hf := flat_get hp
        have hq := hc _ _ hp
        rcases Nat.mod_two_eq_zero_or_one j with m | m
        · have e : j / 2 * 2 = j := by omega
          rw [e] at hf hq
          rw [hq.1, ← hf.1, hj]
        · have e : j / 2 * 2 + 1 = j := by omega
          rw [Nat.add_assoc, e] at hq
          rw [e] at hf
          rw [hq.2, ← hf.2, hj]
    obtain ⟨v', w', hr, k1, k2, -, -⟩ := run_append_own_at (P := Try.prog) w B 22 o.type 25 i (.agg #[.bool false, .slice none 0 0]) 2 32 Try.underlying22 hii hz hsz hby rfl (by omega) v ps.length (flat ps) hB ad qs.length cu (flat qs) (flat_length qs) hnews (isI_one hi) (by unfold maxLen; omega) (by omega) hBs
    unfold Oper.wp execOp
    simp only [hop, resolve, invoke, builtin, Sem.run_bind, Sem.run_pure, Result.andThen_ok, List.map_toArray, List.map_cons, List.map_nil, hs, hx, hr]
    refine hK' _ _ (hK v' w' ?_ k2)
    unfold OwnP
    rw [flat_append, List.length_append]
    exact k1
def Grew (w : World) (e : Ending) (w' : World) : Prop := ∃ v, e = .returned v ∧ w'.ownsRow w.heap.size 25 2 v 0 [] ∧ Below w.heap.size w w'
def Same9 (m : Nat) (pss : List (List (Value × Value))) : Prop := ∀ ps ∈ pss, ps.length = m ∧ ∀ p ∈ ps, IsI p
theorem take_flat {α : Type} {m : Nat} {pss : List (List α)} (h : ∀ ps ∈ pss, ps.length = m) (i : Nat) (hi : i ≤ pss.length) : (pss.take i).flatten.length = i * m := by
  induction i with
  | zero => simp
  | succ i ih =>
    rw [List.take_succ_eq_append_getElem (by omega), List.flatten_append, List.length_append, ih (by omega), List.flatten_cons, List.flatten_nil, List.append_nil, h _ (List.getElem_mem _), Nat.add_mul, Nat.one_mul]
theorem take_flat_succ {α : Type} {pss : List (List α)} {i : Nat} {ps : List α} (h : pss[i]? = some ps) : (pss.take (i + 1)).flatten = (pss.take i).flatten ++ ps := by
  obtain ⟨hi, e⟩ := List.getElem?_eq_some_iff.1 h
  rw [List.take_succ_eq_append_getElem hi, List.flatten_append, e]
  simp
def CatA (w : World) (n m : Nat) (gk : Nat) (s3 s11 : Value) (wx : World) : Prop := ∃ i : Nat, s3 = .int .i64 ((i * m : Nat) : Int) ∧ s11 = .int .i64 (i : Int) ∧ i ≤ n ∧ gk = n - i ∧ wx = w
def CatB (w : World) (n : Nat) (pss : List (List (Value × Value))) (gk : Nat) (s6 s27 : Value) (wx : World) : Prop := ∃ i : Nat, s27 = .int .i64 (i : Int) ∧ i ≤ n ∧ gk = n - i ∧ OwnP w.heap.size wx s6 (pss.take i).flatten ∧ Below w.heap.size w wx
def Catted (w : World) (ps : List (Value × Value)) (e : Ending) (w' : World) : Prop := ∃ v, e = .returned v ∧ Prs w.heap.size w' v ps ∧ Below w.heap.size w w'
theorem grown_below {B : Nat} {w0 w w' : World} {v : Value} {n : Nat} {xs : List Value} (hb : Below w0.heap.size w0 w) (h : w.ownsRow w0.heap.size 25 2 v n xs) (hg : w.grownBy w' v.ownBlock) : Below w0.heap.size w0 w' := by
  refine hb.trans ⟨hg.os, hg.tape, hg.output, hg.size, fun b hb' => hg.block b (Nat.lt_of_lt_of_le hb' hb.size) (fun e => ?_)⟩
  have := (World.ownsRow.lt h b e.symm).1
  omega
abbrev put3 (w : World) (b : Nat) (y0 y1 y2 : Value) : World := ((w.setCell ⟨b, 0, none⟩ y0).setCell ⟨b, 1, none⟩ y1).setCell ⟨b, 2, none⟩ y2
theorem Cel.put3 {w : World} {b : Nat} {T : TypeId} {x0 x1 x2 : Value} (h : Cel w b T [x0, x1, x2]) (y0 y1 y2 : Value) : Cel (put3 w b y0 y1 y2) b T [y0, y1, y2] := ((h.set 0 y0).set 1 y1).set 2 y2
theorem below_put3 {B b : Nat} {w0 w : World} (h : Below B w0 w) (hb : B ≤ b) (y0 y1 y2 : Value) : Below B w0 (Go.Proofs.Ytkikiddoiigbjaa.put3 w b y0 y1 y2) := bset (bset (bset h hb) hb) hb
theorem Prs.put3 {B b : Nat} {w : World} {v : Value} {ps : List (Value × Value)} (h : Prs B w v ps) (hb : b < B) (y0 y1 y2 : Value) : Prs B (Go.Proofs.Ytkikiddoiigbjaa.put3 w b y0 y1 y2) v ps := ((h.off hb).off hb).off hb
/-- The zero matrix' box holds no word. -/
def NoWs (L : List Value) : Prop := ∀ u ∈ L, NoW u
theorem noWs_mat (r c : Int) (a : Option Addr) (l n : Nat) : NoWs [.int .i64 r, .int .i64 c, .slice a l n] := by
  intro u hu x e
  simp at hu
  rcases hu with rfl | rfl | rfl <;> simp at e
theorem Cel.wk3 {w : World} {b : Nat} {T : TypeId} {r c : Int} {a : Option Addr} {l n : Nat} (h : Cel w b T [.int .i64 r, .int .i64 c, .slice a l n]) (y0 y1 y2 : Value) : Wk w (Go.Proofs.Ytkikiddoiigbjaa.put3 w b y0 y1 y2) := by
  have q := noWs_mat r c a l n
  exact ((h.wk (i := 0) rfl (q _ (by simp)) y0).trans ((h.set 0 y0).wk (i := 1) rfl (q _ (by simp)) y1)).trans (((h.set 0 y0).set 1 y1).wk (i := 2) rfl (q _ (by simp)) y2)
end Go.Proofs.Ytkikiddoiigbjaa

/- Ty9 -/
namespace Go.Proofs.Ytkikiddoiigbjaa
open Go.RowKit
set_option linter.unusedVariables false

/-- Blocks of other types than T are as they were. -/
def Ty (T : TypeId) (w w' : World) : Prop := w.heap.size ≤ w'.heap.size ∧ ∀ (b : Nat) (L : Array Value) (T' : TypeId) (fr : Nat × Nat), w.heap[b]? = some (.cells L T' fr) → T' ≠ T → w'.heap[b]? = some (.cells L T' fr)
theorem Ty.of {T : TypeId} {w w' : World} (h : Below w.heap.size w w') : Ty T w w' := ⟨h.size, fun b L T' fr e _ => (h.block b (Array.getElem?_eq_some_iff.1 e).1).trans e⟩
theorem Ty.trans {T : TypeId} {a b c : World} (h : Ty T a b) (h' : Ty T b c) : Ty T a c := ⟨Nat.le_trans h.1 h'.1, fun g L T' fr e hne => h'.2 g L T' fr (h.2 g L T' fr e hne) hne⟩
theorem Ty.set {T : TypeId} {w : World} {g i : Nat} {L : List Value} {u : Value} (d : Cel w g T L) : Ty T w (w.setCell ⟨g, i, none⟩ u) := by
  refine ⟨by simp, fun b L' T' fr e hne => ?_⟩
  have hb : b ≠ g := fun q => by
    subst q
    have := e.symm.trans (show w.heap[b]? = _ from d)
    simp at this
    exact hne this.2.1
  exact (Below.heap_setCell w _ u b (fun q => hb (by simpa using q))).trans e
theorem Ty.grown {T : TypeId} {w w' : World} {B size n : Nat} {v : Value} {xs : List Value} (h : w.ownsRow B T size v n xs) (hg : w.grownBy w' v.ownBlock) : Ty T w w' := by
  refine ⟨hg.size, fun b L' T' fr e hne => (hg.block b (Array.getElem?_eq_some_iff.1 e).1 (fun q => ?_)).trans e⟩
  obtain ⟨_, ⟨q1, _⟩ | ⟨g, cap, cur, q1, _, q3, _⟩⟩ := h
  · rw [q1] at q; cases q
  · rw [q1] at q
    simp only [Value.ownBlock, Option.some.injEq] at q
    subst q
    have := e.symm.trans q3
    simp at this
    exact hne this.2.1
theorem Zm.ty {T : TypeId} {B k : Nat} {w w' : World} {v : Value} {z : Int} (h : Zm B w v z k) (ht : Ty T w w') (hT : 37 ≠ T) : Zm B w' v z k := by
  obtain ⟨n1, zs, a, c, e, hm, rest⟩ := h
  refine ⟨n1, zs, a, c, e, ?_, rest⟩
  obtain ⟨hw, h | ⟨g, r, cap, h1, h2, h3, h4, h5, h6⟩⟩ := hm
  · exact ⟨hw, .inl h⟩
  · exact ⟨hw, .inr ⟨g, r, cap, h1, h2, h3, h4, h5, ht.2 g _ _ _ h6 hT⟩⟩
/-- A list of pairs in a block of integers. -/
def PrsT (w : World) (v : Value) (ps : List (Value × Value)) : Prop := Prs 0 w v ps ∧ ∀ (b off l c : Nat), v = .slice (some ⟨b, off, none⟩) l c → ∃ (L : Array Value) (fr : Nat × Nat), w.heap[b]? = some (.cells L 25 fr)
theorem PrsT.ty {T : TypeId} {w w' : World} {v : Value} {ps : List (Value × Value)} (h : PrsT w v ps) (ht : Ty T w w') (hT : 25 ≠ T) : PrsT w' v ps := by
  have key : ∀ (b off l c : Nat), v = .slice (some ⟨b, off, none⟩) l c → w'.heap[b]? = w.heap[b]? := fun b off l c e => by
    obtain ⟨L, fr, q⟩ := h.2 b off l c e
    rw [ht.2 b L _ fr q hT, q]
  refine ⟨?_, fun b off l c e => by
    obtain ⟨L, fr, q⟩ := h.2 b off l c e
    exact ⟨L, fr, ht.2 b L _ fr q hT⟩⟩
  obtain ⟨a, c, h1, h2, h3, hx, h4⟩ := h.1
  refine ⟨a, c, h1, h2, h3, hx, ?_⟩
  rcases h4 with h4 | ⟨b, off, h5, h5', h6, h7⟩
  · exact .inl h4
  · have e := key b off ps.length c (by rw [h1, h5])
    refine .inr ⟨b, off, h5, h5', Nat.lt_of_lt_of_le h6 ht.1, fun j p hp => ?_⟩
    have q := h7 j p hp
    exact ⟨(World.cell?_of_block (a := ⟨b, off + j * 2, none⟩) e).trans q.1, (World.cell?_of_block (a := ⟨b, off + j * 2 + 1, none⟩) e).trans q.2⟩
theorem PrsT.now {w w' : World} {v : Value} {ps : List (Value × Value)} (h : PrsT w v ps) (hb : Below w.heap.size w w') : PrsT w' v ps := h.ty (T := 37) (.of hb) (by decide)
theorem Arr.prsT {w : World} {g : Nat} {ps : List (Value × Value)} (h : Arr w g ps) (hl : ps.length ≤ 1048576) : PrsT w (.slice (some ⟨g, 0, none⟩) ps.length ps.length) ps := by
  refine ⟨h.prs (Nat.zero_le _) hl (Nat.le_refl _), fun b off l c e => ?_⟩
  simp only [Value.slice.injEq, Option.some.injEq, Addr.mk.injEq] at e
  obtain ⟨⟨rfl, -, -⟩, -, -⟩ := e
  exact ⟨_, _, h.1⟩
theorem OwnP.prsT {B : Nat} {w : World} {v : Value} {ps : List (Value × Value)} (h : OwnP B w v ps) (hl : ps.length ≤ 1048576) : PrsT w v ps := by
  refine ⟨(owns_prs h hl).mono (Nat.zero_le _), fun b off l c e => ?_⟩
  obtain ⟨_, ⟨q1, _⟩ | ⟨g, cap, cur, q1, _, q3, _⟩⟩ := h
  · rw [q1] at e; cases e
  · rw [q1] at e
    simp only [Value.slice.injEq, Option.some.injEq, Addr.mk.injEq] at e
    obtain ⟨⟨rfl, -, -⟩, -, -⟩ := e
    exact ⟨cur, _, q3⟩
/-- The pairs stand for these integers, each in least form with memory of its own. -/
def Zms (w : World) (ps : List (Value × Value)) (zs : List Int) (k : Nat) : Prop := ps.length = zs.length ∧ ∀ (j : Nat) (p : Value × Value) (z : Int), ps[j]? = some p → zs[j]? = some z → Zm 0 w (.agg #[p.1, p.2]) z k
theorem Zms.ty {T : TypeId} {w w' : World} {ps : List (Value × Value)} {zs : List Int} {k : Nat} (h : Zms w ps zs k) (ht : Ty T w w') (hT : 37 ≠ T) : Zms w' ps zs k := ⟨h.1, fun j p z hp hz => (h.2 j p z hp hz).ty ht hT⟩
theorem Zms.now {w w' : World} {ps : List (Value × Value)} {zs : List Int} {k : Nat} (h : Zms w ps zs k) (hb : Below w.heap.size w w') : Zms w' ps zs k := ⟨h.1, fun j p z hp hz => (h.2 j p z hp hz).now hb⟩
theorem Zms.zcs {w : World} {ps : List (Value × Value)} {zs : List Int} {k : Nat} (h : Zms w ps zs k) : Zcs w ps zs k := ⟨h.1, fun j p z hp hz => (h.2 j p z hp hz).zc⟩
theorem Zms.append {w : World} {ps qs : List (Value × Value)} {zs ys : List Int} {k : Nat} (h : Zms w ps zs k) (h' : Zms w qs ys k) : Zms w (ps ++ qs) (zs ++ ys) k := by
  refine ⟨by simp [h.1, h'.1], fun j p z hp hz => ?_⟩
  by_cases q : j < ps.length
  · rw [List.getElem?_append_left q] at hp
    rw [List.getElem?_append_left (by rw [← h.1]; exact q)] at hz
    exact h.2 j p z hp hz
  · rw [List.getElem?_append_right (by omega)] at hp
    rw [List.getElem?_append_right (by rw [← h.1]; omega), ← h.1] at hz
    exact h'.2 _ p z hp hz
def Zmss (w : World) (pss : List (List (Value × Value))) (zss : List (List Int)) (k : Nat) : Prop := pss.length = zss.length ∧ ∀ (j : Nat) (ps : List (Value × Value)), pss[j]? = some ps → Zms w ps (zss.getD j []) k
theorem Zmss.flat {w : World} {k : Nat} : ∀ {pss : List (List (Value × Value))} {zss : List (List Int)}, Zmss w pss zss k → Zms w pss.flatten zss.flatten k
  | [], [], _ => ⟨rfl, fun j p z hp => by simp at hp⟩
  | [], z :: zss, h => by have := h.1; simp at this
  | p :: pss, [], h => by have := h.1; simp at this
  | p :: pss, z :: zss, h => by
    have h1 := h.2 0 p rfl
    have h2 : Zmss w pss zss k := ⟨by have := h.1; simpa using this, fun j ps hp => by simpa using h.2 (j + 1) ps (by simpa using hp)⟩
    simpa using Zms.append h1 (Zmss.flat h2)
theorem Zmss.now {w w' : World} {pss : List (List (Value × Value))} {zss : List (List Int)} {k : Nat} (h : Zmss w pss zss k) (hb : Below w.heap.size w w') : Zmss w' pss zss k := ⟨h.1, fun j ps hp => (h.2 j ps hp).now hb⟩
/-- An array that a loop fills with integers of their own. -/
def FilM (wx : World) (g n i : Nat) (F : Nat → Int) (k : Nat) : Prop := ∃ ps, Arr wx g ps ∧ ps.length = n ∧ ∀ (j : Nat) (p : Value × Value), j < i → ps[j]? = some p → Zm 0 wx (.agg #[p.1, p.2]) (F j) k
theorem FilM.start {w : World} {g n : Nat} (h : Arr w g (List.replicate n zpair)) (F : Nat → Int) (k : Nat) : FilM w g n 0 F k := ⟨_, h, by simp, fun j p hj => by omega⟩
theorem FilM.step {w w' : World} {g n i : Nat} {F : Nat → Int} {k : Nat} (h : FilM w g n i F k) (hb : Below w.heap.size w w') : FilM w' g n i F k := by
  obtain ⟨ps, h1, h2, h3⟩ := h
  exact ⟨ps, h1.step hb, h2, fun j p hj hp => (h3 j p hj hp).now hb⟩
theorem FilM.put {w : World} {g n i : Nat} {F : Nat → Int} {k : Nat} {x y : Value} (h : FilM w g n i F k) (hi : i < n) (hz : Zm 0 w (.agg #[x, y]) (F i) k) : FilM ((w.setCell ⟨g, i * 2, none⟩ x).setCell ⟨g, i * 2 + 1, none⟩ y) g n (i + 1) F k := by
  obtain ⟨ps, h1, h2, h3⟩ := h
  have ht : Ty 25 w ((w.setCell ⟨g, i * 2, none⟩ x).setCell ⟨g, i * 2 + 1, none⟩ y) := (Ty.set h1.1).trans (Ty.set (h1.1.set _ _))
  refine ⟨ps.set i (x, y), h1.put (by omega) hz.zi.isI, by simpa using h2, fun j p hj hp => ?_⟩
  by_cases q : j = i
  · subst q
    rw [List.getElem?_set_self (by omega), Option.some.injEq] at hp
    subst hp
    exact hz.ty ht (by decide)
  · rw [List.getElem?_set_ne (by omega)] at hp
    exact (h3 j p (by omega) hp).ty ht (by decide)
theorem FilM.cells {w : World} {g n i j : Nat} {F : Nat → Int} {k : Nat} (h : FilM w g n i F k) (hj : j < n) : ∃ m a l c, w.cell? ⟨g, j * 2, none⟩ = some (.bool m) ∧ w.cell? ⟨g, j * 2 + 1, none⟩ = some (.slice a l c) ∧ w.frozen? ⟨g, j * 2, none⟩ = false ∧ w.frozen? ⟨g, j * 2 + 1, none⟩ = false := by
  obtain ⟨ps, h1, h2, h3⟩ := h
  have hp : ps[j]? = some (ps[j]'(by omega)) := List.getElem?_eq_getElem (by omega)
  obtain ⟨m, a, l, c, e⟩ := h1.2 _ (List.getElem_mem (l := ps) (n := j) (by omega))
  have q := h1.at hp
  rw [e] at q
  exact ⟨m, a, l, c, q.1, q.2, h1.1.fz _, h1.1.fz _⟩
theorem FilM.done {w : World} {g n : Nat} {F : Nat → Int} {k : Nat} (h : FilM w g n n F k) (hn : n ≤ 1048576) : ∃ ps, PrsT w (.slice (some ⟨g, 0, none⟩) n n) ps ∧ Zms w ps ((List.range n).map F) k := by
  obtain ⟨ps, h1, rfl, h3⟩ := h
  refine ⟨ps, h1.prsT hn, by simp, fun j p z hp hz => ?_⟩
  have hj : j < ps.length := (List.getElem?_eq_some_iff.1 hp).1
  rw [List.getElem?_map, List.getElem?_range hj, Option.map_some, Option.some.injEq] at hz
  subst hz
  exact h3 j p hj hp
def ListedM (w : World) (zs : List Int) (k : Nat) (e : Ending) (w' : World) : Prop := ∃ u ps, e = .returned u ∧ PrsT w' u ps ∧ Zms w' ps zs k ∧ Below w.heap.size w w'
end Go.Proofs.Ytkikiddoiigbjaa
