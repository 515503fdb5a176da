/-
  QWk9ToOpenZ: Wk9, Turn9, Bulk, OpenZ, joined.
-/
import Derived.Test.YtonmlmdnjjafhaaQChk9ToWake9
import Derived.Test.YtonmlmdnjjafhaaQPure9
import Derived.Test.YtonmlmdnjjafhaaRows
import Derived.Test.YtonmlmdnjjafhaaQBaseToPr12
import Derived.Test.YtonmlmdnjjafhaaQMulToZed
import Derived.ChangeSame

/- Wk9 -/
namespace Go.Proofs.Ytonmlmdnjjafhaa
open Go.RowKit
set_option linter.unusedVariables false

theorem Cel.away3 {w : World} {b b' : Nat} {T : TypeId} {L : List Value} (h : Cel w b T L) (hne : b' ≠ b) (y0 y1 y2 : Value) : Cel (Go.Proofs.Ytonmlmdnjjafhaa.put3 w b' y0 y1 y2) b T L := ((h.ne hne).ne hne).ne hne
theorem Mx.wk {w : World} {v : Value} {r c : Nat} {zs : List Int} {k b : Nat} (h : Mx w v r c zs k) {x0 x1 : Int} {a : Option Addr} {l n : Nat} (d : Cel w b 39 [.int .i64 x0, .int .i64 x1, .slice a l n]) (y0 y1 y2 : Value) : Mx (put3 w b y0 y1 y2) v r c zs k := by
  obtain ⟨at_, ps, h1, h2, h3, h4⟩ := h
  refine ⟨at_, ps, h1, ?_, h3.wk (d.wk3 _ _ _), h4⟩
  obtain ⟨a', c', e1, e2, e3, e4, e5⟩ := h2
  refine ⟨a', c', e1, e2, e3, e4, ?_⟩
  rcases e5 with e5 | ⟨b', off, e6, e7, e8, e9⟩
  · exact .inl e5
  · refine .inr ⟨b', off, e6, e7, by simpa using e8, fun j p hp => ?_⟩
    have hne : b ≠ b' := by
      intro e
      subst e
      obtain ⟨n1, a1, l1, c1, q⟩ := h3.isI p (List.mem_of_getElem? hp)
      have q1 := (e9 j p hp).1
      rw [show p.1 = .bool n1 by rw [q]] at q1
      have q2 : w.heap[b]? = some (.cells #[.int .i64 x0, .int .i64 x1, .slice a l n] 39 (0, 0)) := d
      simp only [World.cell?, q2] at q1
      simp at q1
      generalize off + j * 2 = o at q1
      match o, q1 with
      | 0, q1 => simp at q1
      | 1, q1 => simp at q1
      | 2, q1 => simp at q1
      | o + 3, q1 => simp at q1
    have e : ∀ o, (put3 w b y0 y1 y2).cell? ⟨b', o, none⟩ = w.cell? ⟨b', o, none⟩ := fun o => by
      rw [World.cell?_setCell_other _ _ _ _ (by simp <;> omega), World.cell?_setCell_other _ _ _ _ (by simp <;> omega), World.cell?_setCell_other _ _ _ _ (by simp <;> omega)]
    rw [e, e]
    exact e9 j p hp
theorem boxes3 {w W0 : World} {o1 o2 o3 : List Value} (hW : ((w.alloc (.cells o1.toArray 39)).alloc (.cells o2.toArray 39)).alloc (.cells o3.toArray 39) = W0) :
    Cel W0 w.heap.size 39 o1 ∧ Cel W0 (w.heap.size + 1) 39 o2 ∧ Cel W0 (w.heap.size + 1 + 1) 39 o3 := by
  refine ⟨?_, ?_, ?_⟩
  · rw [← hW]
    exact (((Cel.new w 39 o1).step ((Below.refl _ _).alloc (Nat.le_refl _) _)).step ((Below.refl _ _).alloc (Nat.le_refl _) _))
  · rw [← hW]
    have := ((Cel.new (w.alloc (.cells o1.toArray 39)) 39 o2).step ((Below.refl _ _).alloc (Nat.le_refl _) (.cells o3.toArray 39)))
    simpa using this
  · rw [← hW]
    have := Cel.new ((w.alloc (.cells o1.toArray 39)).alloc (.cells o2.toArray 39)) 39 o3
    simpa using this
abbrev rawO (r c : Int) (at_ : Value) : Obj := .cells #[.int .i64 r, .int .i64 c, at_] 39
end Go.Proofs.Ytonmlmdnjjafhaa

/- Turn9 -/
namespace Go.Proofs.Ytonmlmdnjjafhaa
open Go.RowKit
set_option linter.unusedVariables false

def turnL9 (r c : Nat) (zs : List Int) : List Int := (colsL r c zs 0).flatten
theorem turnL9_length {r c : Nat} {zs : List Int} : (turnL9 r c zs).length = c * r := by
  have h : ∀ L : List (List Int), (∀ x ∈ L, x.length = r) → L.flatten.length = L.length * r := by
    intro L
    induction L with
    | nil => simp
    | cons a t ih =>
      intro hL
      rw [List.flatten_cons, List.length_append, ih (fun x hx => hL x (by simp [hx])), hL a (by simp), List.length_cons, Nat.add_mul, Nat.one_mul, Nat.add_comm]
  unfold turnL9
  rw [h _ cols_len]
  simp [colsL]
theorem Zis.append {w : World} {ps qs : List (Value × Value)} {zs ys : List Int} {k : Nat} (h : Zis w ps zs k) (h' : Zis w qs ys k) : Zis w (ps ++ qs) (zs ++ ys) k := by
  refine ⟨by simp [h.1, h'.1], fun j p z hp hz => ?_⟩
  by_cases q : j < ps.length
  · rw [List.getElem?_append_left q] at hp
    rw [List.getElem?_append_left (by rw [← h.1]; exact q)] at hz
    exact h.2 j p z hp hz
  · rw [List.getElem?_append_right (by omega)] at hp
    rw [List.getElem?_append_right (by rw [← h.1]; omega), ← h.1] at hz
    exact h'.2 _ p z hp hz
theorem Ziss.flat {w : World} {k : Nat} : ∀ {pss : List (List (Value × Value))} {zss : List (List Int)}, Ziss w pss zss k → Zis w pss.flatten zss.flatten k
  | [], [], _ => ⟨rfl, fun j p z hp => by simp at hp⟩
  | [], z :: zss, h => by have := h.1; simp at this
  | p :: pss, [], h => by have := h.1; simp at this
  | p :: pss, z :: zss, h => by
    have h1 := h.2 0 p rfl
    have h2 : Ziss w pss zss k := ⟨by have := h.1; simpa using this, fun j ps hp => by simpa using h.2 (j + 1) ps (by simpa using hp)⟩
    simpa using Zis.append h1 (Ziss.flat h2)
theorem zis_turn {w : World} {ps : List (Value × Value)} {zs : List Int} {k r c : Nat} (h : Zis w ps zs k) (hl : zs.length = r * c) : Zis w (colsL r c ps zpair).flatten (turnL9 r c zs) k := Ziss.flat (ziss_cols h hl)
theorem two_boxes {w W0 : World} {o1 : List Value} (hW : (w.alloc (.cells o1.toArray 39)).alloc mbox = W0) :
    Cel W0 w.heap.size 39 o1 ∧ Cel W0 (w.heap.size + 1) 39 [.int .i64 0, .int .i64 0, .slice none 0 0] := by
  refine ⟨?_, ?_⟩
  · rw [← hW]
    exact (Cel.new w 39 o1).step ((Below.refl _ _).alloc (Nat.le_refl _) _)
  · rw [← hW]
    have := Cel.new (w.alloc (.cells o1.toArray 39)) 39 [.int .i64 0, .int .i64 0, .slice none 0 0]
    simpa using this
end Go.Proofs.Ytonmlmdnjjafhaa

/- Bulk -/
namespace Go.Proofs.Ytonmlmdnjjafhaa
open Go.ChangeShapes Go.WideShapes Go.ChangeAt Go.RowKit

/-- A slice value as it comes in: nil, or at a place. -/
def Formed (v : Value) : Prop := v = .slice none 0 0 ∨ ∃ ad n c, v = .slice (some ad) n c
theorem bulk_pos {H : Type} (d : DataW H) : 1 ≤ Rows.uptoBulk d := by
  cases d
  case lit l => cases l <;> simp [Rows.uptoBulk]
  all_goals simp [Rows.uptoBulk]
theorem bulk_in {H : Type} {d : DataW H} : ∀ {l : List (DataW H)}, d ∈ l → Rows.uptoBulk d ≤ Rows.uptoBulkAll l
  | [], h => by cases h
  | x :: r, h => by
    simp only [Rows.uptoBulkAll]
    rcases List.mem_cons.1 h with rfl | h'
    · omega
    · have := bulk_in h'; omega
theorem bulk_len {H : Type} : ∀ l : List (DataW H), l.length ≤ Rows.uptoBulkAll l
  | [] => Nat.zero_le _
  | x :: r => by
    have h1 := bulk_pos x
    have h2 := bulk_len r
    simp only [Rows.uptoBulkAll, List.length_cons]
    omega

theorem open_words3 {H : Type} {enc : TypeId × Value → H} {W : World} {fuel : Nat} {v : Value} {x : DataW H × List MemPlace}
    (hf : DataW.trod enc Try.prog W 0 (fun _ => true) true fuel 33 [v] = some x) (hb : Rows.uptoBulk x.1 ≤ 1048576) :
    ∃ xs, Sl W.heap.size W v xs ∧ xs.length + 1 ≤ Rows.uptoBulk x.1 ∧ Formed v := by
  rcases open_ints Try.underlying33 Try.underlying22 Try.cellsW hf with ⟨hcs, _⟩ | ⟨x', len, cap, zs, hcs, _, hl, hm, hz, hx, hcell, hwz⟩
  · simp only [List.cons.injEq, and_true] at hcs
    subst hcs
    exact ⟨[], Sl.nilAt W, bulk_pos _, .inl rfl⟩
  · simp only [List.cons.injEq, and_true] at hcs
    subst hcs
    simp only [if_true] at hz
    rw [hx] at hb ⊢
    simp only [Rows.uptoBulk] at hb ⊢
    have e1 := bulk_len (lits (H := H) .u64 (zs.take len))
    have e2 := bulk_len (lits (H := H) .u64 (zs.drop len))
    simp only [lits, List.length_map, List.length_take, List.length_drop] at e1 e2
    have hlen : (zs.take len).length = len := by simp; omega
    have hzl : zs.length ≤ 1048576 := by simp only [lits] at hb; omega
    refine ⟨zs.take len, ⟨fun y hy => word_of_wf (hwz y (List.mem_of_mem_take hy)), some x', cap, by rw [hlen], by rw [hlen]; exact hl, by omega, ?_⟩, by rw [hlen]; simp only [lits]; omega, .inr ⟨x', len, cap, rfl⟩⟩
    by_cases he : len = 0
    · exact .inl (by simp [he])
    · obtain ⟨b, off, spot⟩ := x'
      have hc := hcell 0 (by omega)
      have hspot : spot = none := by simpa [Addr.add] using World.cell?_spot hc
      subst hspot
      refine .inr ⟨b, off, rfl, ?_, fun j hj => ?_⟩
      · have := World.block_lt_of_cell? W _ hc
        simpa [Addr.add] using this
      · rw [hlen] at hj
        have hcj := hcell j (by omega)
        have e : (⟨b, off, none⟩ : Addr).add j = ⟨b, off + j, none⟩ := by unfold Addr.add; split <;> simp_all
        rw [e] at hcj
        rw [hcj]
        simp [show j < zs.length by omega]

theorem open_words2 {H : Type} {enc : TypeId × Value → H} {W : World} {fuel : Nat} {v : Value} {x : DataW H × List MemPlace}
    (hf : DataW.trod enc Try.prog W 0 (fun _ => true) true fuel 33 [v] = some x) (hb : Rows.uptoBulk x.1 ≤ 1048576) :
    ∃ xs, Sl W.heap.size W v xs ∧ xs.length ≤ 1048576 ∧ Formed v := by
  obtain ⟨xs, h1, h2, h3⟩ := open_words3 hf hb
  exact ⟨xs, h1, by omega, h3⟩
theorem open_words1 {H : Type} {enc : TypeId × Value → H} {W : World} {fuel : Nat} {v : Value} {x : DataW H × List MemPlace}
    (hf : DataW.trod enc Try.prog W 0 (fun _ => true) true fuel 33 [v] = some x) (hb : Rows.uptoBulk x.1 ≤ 1048576) :
    ∃ xs, Sl W.heap.size W v xs ∧ xs.length ≤ 1048576 := by
  obtain ⟨xs, h1, h2, _⟩ := open_words2 hf hb
  exact ⟨xs, h1, h2⟩
theorem open_small {H : Type} {enc : TypeId × Value → H} {W : World} {a : Option Addr} {len cap : Nat} {d : DataW H} {p : List MemPlace}
    (h0 : DataW.Trod enc Try.prog W 0 (fun _ => true) true 33 (.slice a len cap) d p) (hb : Rows.uptoBulk d ≤ 1048576) :
    ∃ xs, Sl W.heap.size W (.slice a len cap) xs ∧ xs.length ≤ 1048576 ∧ Formed (.slice a len cap) := by
  obtain ⟨fuel, hf⟩ := h0
  exact open_words2 (x := (d, p)) hf hb
end Go.Proofs.Ytonmlmdnjjafhaa

/- OpenZ -/
namespace Go.Proofs.Ytonmlmdnjjafhaa
open Go.ChangeShapes Go.WideShapes Go.ChangeAt Go.RowKit
set_option linter.unusedVariables false

theorem Try.cellsZ : Try.prog.cellsOf 35 = 2 := by kernel_rfl
theorem Try.cellsZb : Try.prog.cellsOf 4 = 1 := by kernel_rfl
theorem Try.cellsZs : Try.prog.cellsOf 33 = 1 := by kernel_rfl
theorem trod_struct2 {H : Type} {enc : TypeId × Value → H} {P : Program} {w : World} {base : Nat} {spare : Nat → Bool} {held : Bool} {t : TypeId} {f0 f1 : Field} {fuel : Nat} {cs : List Value} {x : DataW H × List MemPlace} (ht : P.underlying t = some (.struct #[f0, f1]))
    (h : DataW.trod enc P w base spare held fuel t cs = some x) :
    ∃ y0 y1 n, x.1 = .agg [y0.1, y1.1] ∧ cs.length = P.cellsOf t ∧ DataW.trod enc P w base spare held n f0.type ((cs.drop f0.offset).take (P.cellsOf f0.type)) = some y0 ∧ DataW.trod enc P w base spare held n f1.type ((cs.drop f1.offset).take (P.cellsOf f1.type)) = some y1 := by
  obtain ⟨xs, n, _, rfl, hl, hlen, hf⟩ := DataW.trod_struct ht h
  match xs, hlen with
  | [y0, y1], _ => exact ⟨y0, y1, n, by simp, hl, by simpa using hf 0 f0 rfl, by simpa using hf 1 f1 rfl⟩
set_option maxRecDepth 100000 in
/-- One integer, read. -/
theorem open_int2 {H : Type} {enc : TypeId × Value → H} {W : World} {fuel : Nat} {cs : List Value} {x : DataW H × List MemPlace}
    (hf : DataW.trod enc Try.prog W 0 (fun _ => true) true fuel 35 cs = some x) (hb : Rows.uptoBulk x.1 ≤ 1048576) :
    ∃ n a c xs, cs = [.bool n, .slice a xs.length c] ∧ Sl W.heap.size W (.slice a xs.length c) xs ∧ xs.length ≤ 1048576 ∧ Formed (.slice a xs.length c) := by
  obtain ⟨y0, y1, n, hx, hl, t0, t1⟩ := trod_struct2 Try.underlying35 hf
  rw [Try.cellsZ] at hl
  rw [hx] at hb
  simp only [Rows.uptoBulk, Rows.uptoBulkAll] at hb
  obtain ⟨c0, c1, rfl⟩ : ∃ c0 c1, cs = [c0, c1] := by
    match cs, hl with
    | [c0, c1], _ => exact ⟨c0, c1, rfl⟩
  simp only [Try.cellsZb, Try.cellsZs, List.drop_zero, List.drop_succ_cons, List.take_succ_cons, List.take_zero] at t0 t1
  obtain ⟨k, e0, _⟩ := DataW.trod_bool Try.underlying4 t0
  obtain ⟨xs, sx, lx, fx⟩ := open_words3 t1 (by omega)
  simp only [List.cons.injEq, and_true] at e0
  subst e0
  obtain ⟨a, c, rfl⟩ : ∃ a c, c1 = .slice a xs.length c := by obtain ⟨_, a, c, e, _⟩ := sx; exact ⟨a, c, e⟩
  have := bulk_pos y0.1
  exact ⟨k, a, c, xs, rfl, sx, by omega, fx⟩
set_option maxRecDepth 100000 in
theorem open_zint {H : Type} {enc : TypeId × Value → H} {W : World} {r : Reach} {b0 : Nat} {v : Value} {d : DataW H} {p : List MemPlace}
    (hv : Value.okWide Try.prog W r b0 35 v) (h0 : DataW.Trod enc Try.prog W 0 (fun _ => true) true 35 v d p) (hb : Rows.uptoBulk d ≤ 1048576) :
    ∃ z, Zi W v z 1048576 := by
  obtain ⟨cs, rfl, hsz⟩ := okWide_struct Try.underlying35 hv
  obtain ⟨fuel, hf⟩ := h0
  obtain ⟨n, a, c, xs, hc, h1, h2, h3⟩ := open_int2 hf hb
  refine ⟨iv n xs, n, xs, a, c, ?_, h1, rfl, h2⟩
  simp only [Value.cells] at hc
  congr 1
  apply Array.toList_inj.1
  exact hc
end Go.Proofs.Ytonmlmdnjjafhaa
