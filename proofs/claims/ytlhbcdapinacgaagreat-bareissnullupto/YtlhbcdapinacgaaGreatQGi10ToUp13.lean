/-
  QGi10ToUp13: Gi10, Up13, joined.
-/
import Derived.Test.YtlhbcdapinacgaaGreatQPickB9
import Derived.Deep.AppendLies
import Derived.Test.YtlhbcdapinacgaaGreatQSr13

/- Gi10 -/
namespace Go.Proofs.YtlhbcdapinacgaaGreat
open Go.RowKit
set_option linter.unusedVariables false

def wi10 (xs : List Int) : List Value := xs.map (Value.int .i64)
def RowI10 (w : World) (g : Nat) (L : List Value) : Prop := w.heap[g]? = some (.cells L.toArray 3 (0, 0))
theorem RowI10.lt {w : World} {g : Nat} {L : List Value} (h : RowI10 w g L) : g < w.heap.size := (Array.getElem?_eq_some_iff.1 h).1
theorem RowI10.now {w w' : World} {g : Nat} {L : List Value} (h : RowI10 w g L) (hb : Below w.heap.size w w') : RowI10 w' g L := (hb.block g h.lt).trans h
theorem RowI10.frozen {w : World} {g : Nat} {L : List Value} (h : RowI10 w g L) (i : Nat) : w.frozen? ⟨g, i, none⟩ = false := by
  unfold RowI10 at h
  simp [World.frozen?, h]
theorem RowI10.num {w : World} {g : Nat} {xs : List Int} {r : List Value} (h : RowI10 w g (wi10 xs ++ r)) {i : Nat} (hi : i < xs.length) : w.cell? ⟨g, i, none⟩ = some (.int .i64 xs[i]) := by
  unfold RowI10 at h
  have h1 : i < (wi10 xs ++ r).length := by simp [wi10]; omega
  have h2 : (wi10 xs ++ r)[i] = .int .i64 xs[i] := by
    rw [List.getElem_append_left (by simp [wi10]; exact hi)]
    simp [wi10]
  have h3 : (wi10 xs ++ r)[i]? = some (.int .i64 xs[i]) := by rw [List.getElem?_eq_getElem h1, h2]
  simpa [World.cell?, h] using h3
theorem RowI10.setNum {w : World} {g : Nat} {xs : List Int} {r : List Value} (h : RowI10 w g (wi10 xs ++ r)) {i : Nat} (hi : i < xs.length) (z : Int) : RowI10 (w.setCell ⟨g, i, none⟩ (.int .i64 z)) g (wi10 (xs.set i z) ++ r) := by
  have e : (wi10 xs ++ r).set i (.int .i64 z) = wi10 (xs.set i z) ++ r := by
    rw [List.set_append_left _ _ (by simp [wi10]; exact hi)]
    simp [wi10]
  rw [← e]
  unfold RowI10 at h ⊢
  simp [World.setCell, Array.getElem?_modify, h]
theorem RowI10.in9 {w : World} {g cap : Nat} {ds : List Int} {r : List Value} (h : RowI10 w g (wi10 ds ++ r)) (hc : ds.length ≤ cap) (hl : ds.length ≤ 1048576) : In9 w (.slice (some ⟨g, 0, none⟩) ds.length cap) ds :=
  ⟨_, cap, rfl, hc, hl, .inr ⟨g, 0, rfl, h.lt, fun j hj => by rw [Nat.zero_add]; exact h.num hj⟩⟩
theorem Tryz.infoI10 : (Tryz.prog.info? 3).map (fun i => (i.zero, i.size, i.bytes)) = some (some (.int .i64 0), 1, 8) := by kernel_rfl
def Itr10 (B : Nat) (w : World) (v : Value) (ds : List Int) : Prop := w.ownsRow B 3 1 v ds.length (wi10 ds)
theorem Itr10.nil (B : Nat) (w : World) : Itr10 B w (.slice none 0 0) [] := World.ownsRow_nil _ _ _ _
theorem Itr10.now {B : Nat} {w w' : World} {v : Value} {ds : List Int} (h : Itr10 B w v ds) (hb : Below w.heap.size w w') : Itr10 B w' v ds := by
  obtain ⟨q1, q2 | ⟨g, cap, cur, q2, q3, q4, q5⟩⟩ := h
  · exact ⟨q1, .inl q2⟩
  · exact ⟨q1, .inr ⟨g, cap, cur, q2, q3, (hb.block g (Array.getElem?_eq_some_iff.1 q4).1).trans q4, q5⟩⟩
theorem Itr10.off {B g i : Nat} {w : World} {v u : Value} {ds : List Int} (h : Itr10 B w v ds) (hg : g < B) : Itr10 B (w.setCell ⟨g, i, none⟩ u) v ds := by
  obtain ⟨q1, q2 | ⟨g', cap, cur, q2, q3, q4, q5⟩⟩ := h
  · exact ⟨q1, .inl q2⟩
  · exact ⟨q1, .inr ⟨g', cap, cur, q2, q3, (Below.heap_setCell w _ u g' (by simp; omega)).trans q4, q5⟩⟩
theorem Itr10.row {B : Nat} {w : World} {v : Value} {ds : List Int} (h : Itr10 B w v ds) (hn : 0 < ds.length) : ∃ g cap rest, v = .slice (some ⟨g, 0, none⟩) ds.length cap ∧ B ≤ g ∧ RowI10 w g (wi10 ds ++ rest) ∧ ds.length ≤ cap := by
  obtain ⟨q1, ⟨q2, q3⟩ | ⟨g, cap, cur, q2, q3, q4, q5, q6, q7, q8⟩⟩ := h
  · omega
  · rw [Nat.mul_one] at q7 q8
    refine ⟨g, cap, cur.toList.drop ds.length, q2, q3, ?_, q5⟩
    unfold RowI10
    rw [← q8, List.take_append_drop]
    simpa using q4
theorem Itr10.in9 {B : Nat} {w : World} {v : Value} {ds : List Int} (h : Itr10 B w v ds) (hl : ds.length ≤ 1048576) : In9 w v ds := by
  by_cases hn : 0 < ds.length
  · obtain ⟨g, cap, rest, rfl, _, q, qc⟩ := h.row hn
    exact q.in9 qc hl
  · obtain rfl : ds = [] := List.eq_nil_of_length_eq_zero (by omega)
    obtain ⟨q1, ⟨q2, q3⟩ | ⟨g, cap, cur, q2, _, _, q5, _⟩⟩ := h
    · subst q2
      exact ⟨none, 0, rfl, Nat.le_refl _, hl, .inl rfl⟩
    · subst q2
      exact ⟨_, cap, rfl, Nat.zero_le _, hl, .inl rfl⟩
theorem head_add10 (g j : Nat) : (⟨g, 0, none⟩ : Addr).add j = ⟨g, j, none⟩ := by unfold Addr.add; split <;> simp_all
theorem wpList_append_itr10 (w : World) {ops : Array Oper} {rest : List Oper} {o : Oper} {a : Act} {Q : Exit → Act → World → Prop}
    (hgd : o.guard = none) (s x : Operand) (hop : o.op = .call { callee := .builtin .append, args := #[s, x], argTypes := #[38, 38] })
    (B : Nat) (v : Value) (L : List Int) (c : Int) (hs : a.eval s = v) (hB : Itr10 B w v L) (g : Nat) (hx : a.eval x = .slice (some ⟨g, 0, none⟩) 1 1) (hc : w.cell? ⟨g, 0, none⟩ = some (.int .i64 c)) (hlen : L.length ≤ 1000000000) (hBs : B ≤ w.heap.size)
    (hK : ∀ a' cap' w', Hid (Itr10 B w' (.slice a' (L.length + 1) cap') (L ++ [c])) → Hid (Below B w w') → wpList Tryz.prog ops Q rest (a.put o.dst (.slice a' (L.length + 1) cap')) w') :
    wpList Tryz.prog ops Q (o :: rest) a w := by
  obtain ⟨i, hi, hz, hsz, hby⟩ := info_parts Tryz.infoI10
  refine wpList_append_lies w hgd s x 38 hop B 3 i (.int .i64 0) 1 8 Tryz.underlying38 hi hz hsz hby rfl (by omega) v L.length (wi10 L) hs hB ⟨g, 0, none⟩ 1 1 [.int .i64 c] hx rfl ?_ ?_ (by omega) (by unfold maxLen; omega) (by omega) hBs w.heap.size rfl ?_
  · intro j u' hj
    match j, hj with
    | 0, hj => simp at hj; subst hj; rw [head_add10]; exact hc
  · intro u' hu'
    simp at hu'
    subst hu'
    rfl
  · intro g' cap' w' k1 k2 k3 k4
    refine hK _ _ w' ?_ ?_
    · unfold Hid Itr10
      have e : wi10 (L ++ [c]) = wi10 L ++ [.int .i64 c] := by simp [wi10]
      rw [e, List.length_append, List.length_singleton]
      exact k1
    · refine ⟨k2.os, k2.tape, k2.output, k2.size, fun k hk => k2.block k (by omega) (fun e => ?_)⟩
      obtain ⟨_, ⟨q, _⟩ | ⟨g1, cap1, cur, q, q3, _⟩⟩ := hB
      · rw [q] at e; cases e
      · rw [q] at e
        obtain rfl : k = g1 := by simpa [Value.ownBlock] using e
        omega
/-- The places 0, 1, .. gathered as far as t. -/
def GthH (W : World) (n gk : Nat) (s12 s14 : Value) (wx : World) : Prop := ∃ (t : Nat) (a : Option Addr) (cap : Nat), gk = n - t ∧ s12 = .slice a t cap ∧ s14 = .int .i64 (t : Int) ∧ t ≤ n ∧ Itr10 W.heap.size wx (.slice a t cap) (natv (List.range t)) ∧ Below W.heap.size W wx
theorem gth_start (W : World) (n : Nat) : GthH W n n (.slice none 0 0) (.int .i64 0) W := ⟨0, none, 0, rfl, rfl, rfl, Nat.zero_le _, Itr10.nil _ _, Below.refl _ _⟩
theorem natv_succ (t : Nat) : natv (List.range t) ++ [(t : Int)] = natv (List.range (t + 1)) := by simp [natv, List.range_succ]
/-- All places, two of them swapped. -/
def swN (r i j : Nat) : List Nat := ((List.range r).set i j).set j i
theorem swN_length (r i j : Nat) : (swN r i j).length = r := by simp [swN]
theorem swN_below {r i j : Nat} (hi : i < r) (hj : j < r) : ∀ x ∈ swN r i j, x < r := fun x hx => by
  unfold swN at hx
  rcases List.mem_or_eq_of_mem_set hx with h | h
  · rcases List.mem_or_eq_of_mem_set h with h | h
    · simpa using h
    · omega
  · omega
theorem swN_natv (r i j : Nat) : ((natv (List.range r)).set i (j : Int)).set j (i : Int) = natv (swN r i j) := by simp [natv, swN]
end Go.Proofs.YtlhbcdapinacgaaGreat

/- Up13 -/
namespace Go.Proofs.YtlhbcdapinacgaaGreat
open Go.RowKit
set_option linter.unusedVariables false

theorem Ivs.itr {B : Nat} {w : World} {v : Value} {l : List Nat} (h : Ivs B w v l) : Itr10 B w v (natv l) := by
  have e1 : (natv l).length = l.length := by simp [natv]
  have e2 : wi10 (natv l) = l.map fun (a : Nat) => Value.int .i64 (a : Int) := by simp [wi10, natv]
  unfold Itr10
  rw [e1, e2]
  exact h
theorem Ivs.in9 {B : Nat} {w : World} {v : Value} {l : List Nat} (h : Ivs B w v l) (hl : l.length ≤ 1048576) : In9 w v (natv l) := h.itr.in9 (by simp [natv]; exact hl)
def GivesI (w : World) (l : List Nat) (e : Ending) (w' : World) : Prop := ∃ v, e = .returned v ∧ Ivs w.heap.size w' v l ∧ Below w.heap.size w w'
def UpH (w : World) (n : Nat) (P : Nat → Bool) (gk : Nat) (s3 s4 : Value) (wx : World) : Prop := ∃ t : Nat, s4 = .int .i64 (t : Int) ∧ t ≤ n ∧ gk = n - t ∧ Ivs w.heap.size wx s3 ((List.range t).filter P) ∧ Below w.heap.size w wx
theorem UpH.more {P : Nat → Bool} {t : Nat} (h : P t = true) : (List.range t).filter P ++ [t] = (List.range (t + 1)).filter P := by rw [List.range_succ, List.filter_append]; simp [h]
theorem UpH.skip {P : Nat → Bool} {t : Nat} (h : P t = false) : (List.range t).filter P = (List.range (t + 1)).filter P := by rw [List.range_succ, List.filter_append]; simp [h]
theorem below_own {B : Nat} {w0 w w' : World} {v : Value} {l : List Nat} (h : Below B w0 w) (hB : B ≤ w.heap.size) (ho : Ivs B w v l) (hg : w.grownBy w' v.ownBlock) : Below B w0 w' :=
  h.trans ⟨hg.os, hg.tape, hg.output, hg.size, fun k hk => hg.block k (by omega) (fun e => by have := (ho.blk e.symm).1; omega)⟩
set_option maxHeartbeats 1600000 in
set_option maxRecDepth 100000 in
theorem upto13 {w : World} {n : Nat} (hn : n ≤ 64) : Calls Tryz.prog 28 #[.int .i64 (n : Int)] w (GivesI w (List.range n)) := by
  have H0 : Hid (UpH w n (fun _ => true) n (.slice none 0 0) (.int .i64 0) w) := ⟨0, rfl, Nat.zero_le _, rfl, Ivs.nil _ _, Below.refl _ _⟩
  have EF : ∀ t, (List.range t).filter (fun _ => true) = List.range t := fun t => by simp
  have HEF := hid EF
  clear EF
  go_enter Tryz.func28, Tryz.ntmps28
  go_wp2_with fail
  go_loopg [3, 4] n (fun gk s3 s4 wx => UpH w n (fun _ => true) gk s3 s4 wx)
  case atStart => exact H0.out
  case round =>
    clear H0
    obtain ⟨t, rfl, htn, hgk, hi, hb⟩ := hrel
    have II := hid hi
    have BB := hid hb
    have HG := hid hgk
    clear hi hb hgk
    by_cases hlt : t < n
    · have hlt' : (t : Int) < (n : Int) := by omega
      obtain ⟨V, hV⟩ : ∃ V, wr.alloc (.cells #[.int .i64 (t : Int)] 3) = V := ⟨_, rfl⟩
      obtain ⟨bv, szv⟩ := alo1 wr (.cells #[.int .i64 (t : Int)] 3)
      rw [hV] at bv szv
      have CV : Hid (V.cell? ⟨wr.heap.size, 0, none⟩ = some (.int .i64 (t : Int))) := by unfold Hid; rw [← hV]; exact (Cel.new wr 3 [.int .i64 (t : Int)]).at (i := 0) rfl
      have IV := hid (II.out.now bv)
      have BV := hid (below_step BB.out bv)
      have HL : Hid (((List.range t).filter (fun _ => true)).length ≤ 1000000) := by unfold Hid; have := List.length_filter_le (fun _ => true) (List.range t); rw [List.length_range] at this; omega
      have EV := hid hV
      have hw := wrapI9 (i := t) (by omega)
      obtain ⟨aa, cap, rfl, -, -⟩ := II.out.form
      clear bv szv hV II BB
      go_wp2_with (at_builtin; rw [EV.out]; refine wpList_append_ivs V rfl (.tmp 10) (.tmp 12) rfl w.heap.size _ _ t rfl IV.out wr.heap.size rfl CV.out HL.out BV.out.size ?_)
      intro g' cap' w3 hI hg hb
      have HN1 : Hid (UpH w n (fun _ => true) (n - (t + 1)) (.slice (some ⟨g', 0, none⟩) (((List.range t).filter (fun _ => true)).length + 1) cap') (.int .i64 ((t + 1 : Nat) : Int)) w3) := ⟨t + 1, rfl, by omega, rfl, by rw [← UpH.more (P := fun _ => true) (t := t) rfl]; exact hI.out, below_own BV.out BV.out.size IV.out hg.out⟩
      have HMM : Hid (n - (t + 1) < gk) := by unfold Hid; rw [HG.out]; omega
      clear hI hg hb IV BV CV HL EV HG
      generalize ((List.range t).filter (fun _ => true)).length = fl at *
      go_wp2_with fail
      go_roundg (n - (t + 1))
      case rel => exact HN1.out
      case measure => exact HMM.out
    · have hlt' : ¬ (t : Int) < (n : Int) := by omega
      obtain rfl : t = n := by omega
      obtain ⟨aa, cap, rfl, -, -⟩ := II.out.form
      have FIN : Hid (GivesI w (List.range t) (.returned (.slice aa ((List.range t).filter (fun _ => true)).length cap)) wr) := ⟨_, rfl, by have := II.out; rw [HEF.out] at this ⊢; exact this, BB.out⟩
      clear II BB HG
      go_wp2
      go_ret
      exact FIN.out
set_option maxHeartbeats 1600000 in
set_option maxRecDepth 100000 in
theorem without13 {w : World} {n k : Nat} (hn : n ≤ 64) : Calls Tryz.prog 15 #[.int .i64 (n : Int), .int .i64 (k : Int)] w (GivesI w ((List.range n).filter fun t => t != k)) := by
  obtain ⟨P, hP⟩ : ∃ P : Nat → Bool, P = fun t => t != k := ⟨_, rfl⟩
  have HP : Hid (∀ t, P t = (t != k)) := fun t => by rw [hP]
  rw [← hP]
  clear hP
  have HFL : Hid (∀ t, ((List.range t).filter P).length ≤ t) := fun t => by
    have := List.length_filter_le P (List.range t)
    simpa using this
  have H0 : Hid (UpH w n P n (.slice none 0 0) (.int .i64 0) w) := ⟨0, rfl, Nat.zero_le _, rfl, Ivs.nil _ _, Below.refl _ _⟩
  go_enter Tryz.func15, Tryz.ntmps15
  go_wp2_with fail
  go_loopg [5, 6] n (fun gk s5 s6 wx => UpH w n P gk s5 s6 wx)
  case atStart => exact H0.out
  case round =>
    clear H0
    obtain ⟨t, rfl, htn, hgk, hi, hb⟩ := hrel
    have II := hid hi
    have BB := hid hb
    have HG := hid hgk
    clear hi hb hgk
    by_cases hlt : t < n
    · have hlt' : (t : Int) < (n : Int) := by omega
      have hw := wrapI9 (i := t) (by omega)
      have HMM : Hid (n - (t + 1) < gk) := by unfold Hid; rw [HG.out]; omega
      obtain ⟨aa, cap, rfl, -, -⟩ := II.out.form
      by_cases hk : t = k
      · have HN1 : Hid (UpH w n P (n - (t + 1)) (.slice aa ((List.range t).filter P).length cap) (.int .i64 ((t + 1 : Nat) : Int)) wr) := ⟨t + 1, rfl, by omega, rfl, by rw [← UpH.skip (P := P) (t := t) (by rw [HP.out]; simp [hk])]; exact II.out, BB.out⟩
        have hkb : ((t : Int) != (k : Int)) = false := by simp; omega
        clear II BB HG hk
        generalize ((List.range t).filter P).length = fl at *
        go_wp2_with fail
        go_roundg (n - (t + 1))
        case rel => exact HN1.out
        case measure => exact HMM.out
      · have hki : ¬ (t : Int) = (k : Int) := by omega
        have hkb : ((t : Int) != (k : Int)) = true := by simp; omega
        obtain ⟨V, hV⟩ : ∃ V, wr.alloc (.cells #[.int .i64 (t : Int)] 3) = V := ⟨_, rfl⟩
        obtain ⟨bv, szv⟩ := alo1 wr (.cells #[.int .i64 (t : Int)] 3)
        rw [hV] at bv szv
        have CV : Hid (V.cell? ⟨wr.heap.size, 0, none⟩ = some (.int .i64 (t : Int))) := by unfold Hid; rw [← hV]; exact (Cel.new wr 3 [.int .i64 (t : Int)]).at (i := 0) rfl
        have IV := hid (II.out.now bv)
        have BV := hid (below_step BB.out bv)
        have HL : Hid (((List.range t).filter P).length ≤ 1000000) := by unfold Hid; have := HFL.out t; omega
        have EV := hid hV
        have HPT : Hid (P t = true) := by unfold Hid; rw [HP.out]; simp [hk]
        clear bv szv hV II BB hk
        go_wp2_with (at_builtin; rw [EV.out]; refine wpList_append_ivs V rfl (.tmp 15) (.tmp 17) rfl w.heap.size _ _ t rfl IV.out wr.heap.size rfl CV.out HL.out BV.out.size ?_)
        intro g' cap' w3 hI hg hb
        have HN1 : Hid (UpH w n P (n - (t + 1)) (.slice (some ⟨g', 0, none⟩) (((List.range t).filter P).length + 1) cap') (.int .i64 ((t + 1 : Nat) : Int)) w3) := ⟨t + 1, rfl, by omega, rfl, by rw [← UpH.more HPT.out]; exact hI.out, below_own BV.out BV.out.size IV.out hg.out⟩
        clear hI hg hb IV BV CV HL EV HG
        generalize ((List.range t).filter P).length = fl at *
        go_wp2_with fail
        go_roundg (n - (t + 1))
        case rel => exact HN1.out
        case measure => exact HMM.out
    · have hlt' : ¬ (t : Int) < (n : Int) := by omega
      obtain rfl : t = n := by omega
      obtain ⟨aa, cap, rfl, -, -⟩ := II.out.form
      have FIN : Hid (GivesI w ((List.range t).filter P) (.returned (.slice aa ((List.range t).filter P).length cap)) wr) := ⟨_, rfl, II.out, BB.out⟩
      clear II BB HG
      go_wp2
      go_ret
      exact FIN.out
end Go.Proofs.YtlhbcdapinacgaaGreat
