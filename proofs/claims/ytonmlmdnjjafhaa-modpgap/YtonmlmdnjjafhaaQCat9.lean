/-
  Cat9: rows of pairs gathered by append; slices.Grow, slices.Concat, ofRows.
-/
import Derived.Test.YtonmlmdnjjafhaaQRows9ToRowsOf9
import Derived.Lib.AppendZeros
import Derived.Laws.AppendOwnNone
namespace Go.Proofs.Ytonmlmdnjjafhaa
open Go.RowKit
set_option linter.unusedVariables false

theorem owns_keep {w w' : World} {base : Nat} {e : TypeId} {size : Nat} {v : Value} {n : Nat} {xs : List Value} (h : w.ownsRow base e size v n xs) (hk : ∀ b, v.ownBlock = some b → b < w.heap.size → w'.heap[b]? = w.heap[b]?) : w'.ownsRow base e size v n xs := by
  obtain ⟨q1, q2 | ⟨g, cap, cur, q2, q3, q4, q5⟩⟩ := h
  · exact ⟨q1, .inl q2⟩
  · exact ⟨q1, .inr ⟨g, cap, cur, q2, q3, (hk g (by rw [q2]; rfl) (Array.getElem?_eq_some_iff.1 q4).1).trans q4, q5⟩⟩
/-- Gathered pairs as a list. -/
theorem owns_prs {w : World} {B : Nat} {v : Value} {ps : List (Value × Value)} (h : w.ownsRow B 35 2 v ps.length (flat ps)) (hl : ps.length ≤ 1048576) : Prs B w v ps := by
  have h1' := h
  obtain ⟨q1, ⟨q2, q3⟩ | ⟨g, cap, cur, q2, q3, q4, q5, q6⟩⟩ := h
  · rw [q2]
    have : ps = [] := List.eq_nil_of_length_eq_zero q3
    subst this
    exact Prs.nil _ _
  · refine ⟨_, cap, q2, q5, hl, (fun q => by cases q), .inr ⟨g, 0, rfl, q3, (Array.getElem?_eq_some_iff.1 q4).1, fun j p hp => ?_⟩⟩
    have ea : ∀ j, (⟨g, 0, none⟩ : Addr).add j = ⟨g, j, none⟩ := fun j => by unfold Addr.add; split <;> simp_all
    have c0 := World.ownsRow.cells h1' (g := g) (by rw [q2]; rfl) _ _ (flat_get hp).1
    have c1 := World.ownsRow.cells h1' (g := g) (by rw [q2]; rfl) _ _ (flat_get hp).2
    rw [ea] at c0 c1
    rw [Nat.zero_add]
    exact ⟨c0, c1⟩
theorem isI_one {ps : List (Value × Value)} (h : ∀ p ∈ ps, IsI p) : ∀ u ∈ flat ps, u.oneCell' = true := by
  induction ps with
  | nil => intro u hu; simp [flat] at hu
  | cons p r ih =>
    intro u hu
    obtain ⟨n, a, l, c, e⟩ := h p (by simp)
    simp only [flat, List.mem_cons] at hu
    rw [e] at hu
    rcases hu with rfl | rfl | hu
    · rfl
    · rfl
    · exact ih (fun q hq => h q (by simp [hq])) u hu
/-- Gathered pairs, in memory from block B on that is its own. -/
def OwnP (B : Nat) (w : World) (v : Value) (ps : List (Value × Value)) : Prop := w.ownsRow B 35 2 v ps.length (flat ps)
/-- append of a list of pairs onto gathered ones. -/
theorem wpList_append_pairs (w : World) {ops : Array Oper} {rest : List Oper} {o : Oper} {a : Act} {Q : Exit → Act → World → Prop}
    (hgd : o.guard = none) (s x : Operand) (hop : o.op = .call { callee := .builtin .append, args := #[s, x], argTypes := #[37, 37] })
    (B : Nat) (v u : Value) (ps qs : List (Value × Value)) (hs : a.eval s = v) (hB : OwnP B w v ps) (hx : a.eval x = u) (B' : Nat) (hu : Prs B' w u qs) (hi : ∀ p ∈ qs, IsI p) (hlen : ps.length + qs.length ≤ 1048576) (hBs : B ≤ w.heap.size)
    (hK : ∀ v' w', OwnP B w' v' (ps ++ qs) → Hid (w.grownBy w' v.ownBlock) → wpList Try.prog ops Q rest (a.put o.dst v') w') :
    wpList Try.prog ops Q (o :: rest) a w := by
  obtain ⟨i, hii, hz, hsz, hby⟩ := info_parts Try.infoZ9
  obtain ⟨au, cu, rfl, h2, h3, hn, h4⟩ := hu
  rcases au with _ | ad
  · have e : qs = [] := by
      rcases h4 with h4 | ⟨b, off, q, _⟩
      · exact h4
      · cases q
    subst e
    have := hn rfl
    subst this
    refine wpList_append_own_none hgd s x 37 hop B 35 i 2 Try.underlying37 hii v ps.length (flat ps) hs hB hx ?_
    have := hK v w (by simpa using hB) ⟨rfl, rfl, rfl, Nat.le_refl _, fun _ _ _ => rfl⟩
    exact this
  · refine wpList_plain hgd fun K hK' => ?_
    have hnews : ∀ j y, (flat qs)[j]? = some y → w.cell? (ad.add j) = some y := fun j y hj => by
      have hjl := (List.getElem?_eq_some_iff.1 hj).1
      rw [flat_length] at hjl
      rcases h4 with rfl | ⟨b, off, q, _, _, hc⟩
      · simp at hjl
      · obtain rfl : ad = ⟨b, off, none⟩ := by simpa using q
        have ea : ∀ j, (⟨b, off, none⟩ : Addr).add j = ⟨b, off + j, none⟩ := fun j => by unfold Addr.add; split <;> simp_all
        rw [ea]
        have hp : qs[j / 2]? = some (qs[j / 2]'(by omega)) := List.getElem?_eq_getElem (by omega)
        have hf := flat_get hp
        have hq := hc _ _ hp
        rcases Nat.mod_two_eq_zero_or_one j with m | m
        · have e : j / 2 * 2 = j := by omega
          rw [e] at hf hq
          rw [hq.1, ← hf.1, hj]
        · have e : j / 2 * 2 + 1 = j := by omega
          rw [Nat.add_assoc, e] at hq
          rw [e] at hf
          rw [hq.2, ← hf.2, hj]
    obtain ⟨v', w', hr, k1, k2, -, -⟩ := run_append_own_at (P := Try.prog) w B 37 o.type 35 i (.agg #[.bool false, .slice none 0 0]) 2 32 Try.underlying37 hii hz hsz hby rfl (by omega) v ps.length (flat ps) hB ad qs.length cu (flat qs) (flat_length qs) hnews (isI_one hi) (by unfold maxLen; omega) (by omega) hBs
    unfold Oper.wp execOp
    simp only [hop, resolve, invoke, builtin, Sem.run_bind, Sem.run_pure, Result.andThen_ok, List.map_toArray, List.map_cons, List.map_nil, hs, hx, hr]
    refine hK' _ _ (hK v' w' ?_ k2)
    unfold OwnP
    rw [flat_append, List.length_append]
    exact k1
def Grew (w : World) (e : Ending) (w' : World) : Prop := ∃ v, e = .returned v ∧ w'.ownsRow w.heap.size 35 2 v 0 [] ∧ Below w.heap.size w w'
def Same9 (m : Nat) (pss : List (List (Value × Value))) : Prop := ∀ ps ∈ pss, ps.length = m ∧ ∀ p ∈ ps, IsI p
theorem take_flat {α : Type} {m : Nat} {pss : List (List α)} (h : ∀ ps ∈ pss, ps.length = m) (i : Nat) (hi : i ≤ pss.length) : (pss.take i).flatten.length = i * m := by
  induction i with
  | zero => simp
  | succ i ih =>
    rw [List.take_succ_eq_append_getElem (by omega), List.flatten_append, List.length_append, ih (by omega), List.flatten_cons, List.flatten_nil, List.append_nil, h _ (List.getElem_mem _), Nat.add_mul, Nat.one_mul]
theorem take_flat_succ {α : Type} {pss : List (List α)} {i : Nat} {ps : List α} (h : pss[i]? = some ps) : (pss.take (i + 1)).flatten = (pss.take i).flatten ++ ps := by
  obtain ⟨hi, e⟩ := List.getElem?_eq_some_iff.1 h
  rw [List.take_succ_eq_append_getElem hi, List.flatten_append, e]
  simp
def CatA (w : World) (n m : Nat) (gk : Nat) (s3 s11 : Value) (wx : World) : Prop := ∃ i : Nat, s3 = .int .i64 ((i * m : Nat) : Int) ∧ s11 = .int .i64 (i : Int) ∧ i ≤ n ∧ gk = n - i ∧ wx = w
def CatB (w : World) (n : Nat) (pss : List (List (Value × Value))) (gk : Nat) (s6 s27 : Value) (wx : World) : Prop := ∃ i : Nat, s27 = .int .i64 (i : Int) ∧ i ≤ n ∧ gk = n - i ∧ OwnP w.heap.size wx s6 (pss.take i).flatten ∧ Below w.heap.size w wx
def Catted (w : World) (ps : List (Value × Value)) (e : Ending) (w' : World) : Prop := ∃ v, e = .returned v ∧ Prs w.heap.size w' v ps ∧ Below w.heap.size w w'
theorem grown_below {B : Nat} {w0 w w' : World} {v : Value} {n : Nat} {xs : List Value} (hb : Below w0.heap.size w0 w) (h : w.ownsRow w0.heap.size 35 2 v n xs) (hg : w.grownBy w' v.ownBlock) : Below w0.heap.size w0 w' := by
  refine hb.trans ⟨hg.os, hg.tape, hg.output, hg.size, fun b hb' => hg.block b (Nat.lt_of_lt_of_le hb' hb.size) (fun e => ?_)⟩
  have := (World.ownsRow.lt h b e.symm).1
  omega
/-- The result of a call that answers a matrix. -/
theorem mback {f : Func} {s : Nat} (hr : f.results = #[ResultVar.cell s 39]) {W : World} {b : Nat} {x0 x1 x2 : Value} (h : Cel W b 39 [x0, x1, x2]) (tmps : Array Value) (ht : tmps[s]? = some (.pointer (some ⟨b, 0, none⟩))) :
    (results f tmps).run Try.prog W = .ok (.agg #[x0, x1, x2]) W := by
  simp [results, hr, go_sem, ht, h.at (i := 0) rfl, h.at (i := 1) rfl, h.at (i := 2) rfl]
/-- .. and an error. -/
theorem mback1 {f : Func} {s1 s3 : Nat} (hr : f.results = #[ResultVar.cell s1 39, ResultVar.tmp s3]) {W : World} {b : Nat} {x0 x1 x2 e : Value} (h : Cel W b 39 [x0, x1, x2]) (tmps : Array Value) (ht : tmps[s1]? = some (.pointer (some ⟨b, 0, none⟩))) (he : tmps[s3]? = some e) :
    (results f tmps).run Try.prog W = .ok (.tuple #[.agg #[x0, x1, x2], e]) W := by
  simp [results, hr, go_sem, ht, he, h.at (i := 0) rfl, h.at (i := 1) rfl, h.at (i := 2) rfl]
abbrev put3 (w : World) (b : Nat) (y0 y1 y2 : Value) : World := ((w.setCell ⟨b, 0, none⟩ y0).setCell ⟨b, 1, none⟩ y1).setCell ⟨b, 2, none⟩ y2
theorem Cel.put3 {w : World} {b : Nat} {T : TypeId} {x0 x1 x2 : Value} (h : Cel w b T [x0, x1, x2]) (y0 y1 y2 : Value) : Cel (put3 w b y0 y1 y2) b T [y0, y1, y2] := ((h.set 0 y0).set 1 y1).set 2 y2
theorem below_put3 {B b : Nat} {w0 w : World} (h : Below B w0 w) (hb : B ≤ b) (y0 y1 y2 : Value) : Below B w0 (Go.Proofs.Ytonmlmdnjjafhaa.put3 w b y0 y1 y2) := bset (bset (bset h hb) hb) hb
theorem Prs.put3 {B b : Nat} {w : World} {v : Value} {ps : List (Value × Value)} (h : Prs B w v ps) (hb : b < B) (y0 y1 y2 : Value) : Prs B (Go.Proofs.Ytonmlmdnjjafhaa.put3 w b y0 y1 y2) v ps := ((h.off hb).off hb).off hb
/-- The zero matrix' box holds no word. -/
def NoWs (L : List Value) : Prop := ∀ u ∈ L, NoW u
theorem noWs_mat (r c : Int) (a : Option Addr) (l n : Nat) : NoWs [.int .i64 r, .int .i64 c, .slice a l n] := by
  intro u hu x e
  simp at hu
  rcases hu with rfl | rfl | rfl <;> simp at e
theorem Cel.wk3 {w : World} {b : Nat} {T : TypeId} {r c : Int} {a : Option Addr} {l n : Nat} (h : Cel w b T [.int .i64 r, .int .i64 c, .slice a l n]) (y0 y1 y2 : Value) : Wk w (Go.Proofs.Ytonmlmdnjjafhaa.put3 w b y0 y1 y2) := by
  have q := noWs_mat r c a l n
  exact ((h.wk (i := 0) rfl (q _ (by simp)) y0).trans ((h.set 0 y0).wk (i := 1) rfl (q _ (by simp)) y1)).trans (((h.set 0 y0).set 1 y1).wk (i := 2) rfl (q _ (by simp)) y2)
end Go.Proofs.Ytonmlmdnjjafhaa
