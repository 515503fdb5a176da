/-
  Fg7: lists of float64 that a call gathers by append; sums.
-/
import Derived.Test.YtbamffggnnacaaaDoorQFs7ToFf7
import Derived.Test.YtbamffggnnacaaaDoorQWc7ToFz7
import Derived.Laws.AppendOwn
namespace Go.Proofs.YtbamffggnnacaaaDoor
open Go.RowKit
set_option linter.unusedVariables false

/-- The slice value v gathers fs; its row lies from block B on. -/
def Gat (B : Nat) (w : World) (v : Value) (fs : List Nat) : Prop := w.ownsRow B 26 1 v fs.length (fws fs)
theorem Gat.nil (B : Nat) (w : World) : Gat B w (.slice none 0 0) [] := World.ownsRow_nil _ _ _ _
theorem Gat.now {B : Nat} {w w' : World} {v : Value} {fs : List Nat} (h : Gat B w v fs) (hb : Below w.heap.size w w') : Gat B w' v fs := by
  obtain ⟨q1, q2 | ⟨g, cap, cur, q2, q3, q4, q5⟩⟩ := h
  · exact ⟨q1, .inl q2⟩
  · exact ⟨q1, .inr ⟨g, cap, cur, q2, q3, (hb.block g (Array.getElem?_eq_some_iff.1 q4).1).trans q4, q5⟩⟩
theorem add_head (g j : Nat) : (⟨g, 0, none⟩ : Addr).add j = ⟨g, j, none⟩ := by unfold Addr.add; split <;> simp_all
theorem Gat.fs {B : Nat} {w : World} {v : Value} {fs : List Nat} (h : Gat B w v fs) (hw : ∀ f ∈ fs, f < 2 ^ 64) (hl : fs.length ≤ 8388608) : Fs w.heap.size w v fs := by
  have h' := h
  obtain ⟨q1, ⟨q2, q3⟩ | ⟨g, cap, cur, q2, q3, q4, q5, q6⟩⟩ := h
  · have e : fs = [] := List.eq_nil_of_length_eq_zero q3
    subst e
    exact ⟨hw, none, 0, q2, Nat.le_refl _, hl, .inl rfl⟩
  · refine ⟨hw, _, cap, q2, q5, hl, .inr ⟨g, 0, rfl, (Array.getElem?_eq_some_iff.1 q4).1, fun j hj => ?_⟩⟩
    have := World.ownsRow.cells h' (g := g) (by rw [q2]; rfl) j (.float .f64 fs[j]) (by simp [fws, hj])
    rw [add_head] at this
    rw [Nat.zero_add]; exact this
theorem Gat.new (w : World) (x : Nat) : Gat w.heap.size (w.alloc (.cells #[.float .f64 x] 26)) (.slice (some ⟨w.heap.size, 0, none⟩) 1 1) [x] :=
  ⟨by simp [fws], .inr ⟨w.heap.size, 1, #[.float .f64 x], rfl, Nat.le_refl _, heap_alloc_new w _, Nat.le_refl _, by unfold maxLen; omega, by simp, by simp [fws]⟩⟩
/-- What lies in blocks of another type stays. -/
theorem grown_other {B n : Nat} {w w' : World} {v : Value} {us : List Value} (ho : w.ownsRow B 26 1 v n us) (hg : w.grownBy w' v.ownBlock) {k : Nat} {cur : Array Value} {t : TypeId} {fr : Nat × Nat} (hk : w.heap[k]? = some (.cells cur t fr)) (ht : t ≠ 26) : w'.heap[k]? = some (.cells cur t fr) := by
  refine (hg.block k (Array.getElem?_eq_some_iff.1 hk).1 fun e => ?_).trans hk
  obtain ⟨_, ⟨q, _⟩ | ⟨g', cap', c', q, _, q4, _⟩⟩ := ho
  · rw [q] at e; cases e
  · rw [q] at e
    simp only [Value.ownBlock, Option.some.injEq] at e
    subst e
    have := hk.symm.trans q4
    simp only [Option.some.injEq, Obj.cells.injEq] at this
    exact ht this.2.1
/-- Integers and their boxes stay. -/
structure Keeps7 (w w' : World) : Prop where
  duo : ∀ b x y, Duo w b x y → Duo w' b x y
  zm : ∀ B v z k, Zm B w v z k → Zm B w' v z k
  size : w.heap.size ≤ w'.heap.size
theorem keeps_grown {B n : Nat} {w w' : World} {v : Value} {us : List Value} (ho : w.ownsRow B 26 1 v n us) (hg : w.grownBy w' v.ownBlock) : Keeps7 w w' := by
  refine ⟨fun b x y h => grown_other ho hg h (by decide), fun B v z k h => ?_, hg.size⟩
  obtain ⟨n', xs, a, c, h1, ⟨hw, h2⟩, h3⟩ := h
  refine ⟨n', xs, a, c, h1, ⟨hw, ?_⟩, h3⟩
  rcases h2 with h2 | ⟨g, r, cap, q1, q2, q3, q4, q5, q6⟩
  · exact .inl h2
  · exact .inr ⟨g, r, cap, q1, q2, q3, q4, q5, grown_other ho hg q6 (by decide)⟩
theorem wpList_append_gat (w : World) {ops : Array Oper} {rest : List Oper} {o : Oper} {a : Act} {Q : Exit → Act → World → Prop}
    (hgd : o.guard = none) (s x : Operand) (hop : o.op = .call { callee := .builtin .append, args := #[s, x], argTypes := #[55, 55] })
    (B : Nat) (v : Value) (fs gs : List Nat) (hs : a.eval s = v) (hB : Gat B w v fs) (g m c : Nat) (hx : a.eval x = .slice (some ⟨g, 0, none⟩) m c) (hm : gs.length = m) (hc : ∀ j (h : j < gs.length), w.cell? ⟨g, j, none⟩ = some (.float .f64 gs[j])) (hlen : fs.length + m ≤ 8388608) (hBs : B ≤ w.heap.size)
    (hK : ∀ v' w', Hid (Gat B w' v' (fs ++ gs)) → Hid (Keeps7 w w') → Hid (Below B w w') → wpList Tryd.prog ops Q rest (a.put o.dst v') w') :
    wpList Tryd.prog ops Q (o :: rest) a w := by
  obtain ⟨i, hi, hz, hsz, hby⟩ := info_parts Tryd.infoF
  refine wpList_append_own w hgd s x 55 hop B 26 i (.float .f64 0) 1 8 Tryd.underlying55 hi hz hsz hby rfl (by omega) v fs.length (fws fs) hs hB ⟨g, 0, none⟩ m c (fws gs) hx (by rw [length_fws]; omega) ?_ ?_ (by unfold maxLen; omega) (by omega) hBs ?_
  · intro j u hj
    have hj' : j < gs.length := by
      have := (List.getElem?_eq_some_iff.1 hj).1
      simpa [length_fws] using this
    rw [add_head, hc j hj', ← hj]
    simp [fws, hj']
  · intro u hu
    simp only [fws, List.mem_map] at hu
    obtain ⟨y, _, rfl⟩ := hu
    rfl
  · intro v' w' k1 k2 _
    refine hK v' w' ?_ (keeps_grown hB k2) ?_
    · unfold Gat Hid
      rw [List.length_append, hm, show fws (fs ++ gs) = fws fs ++ fws gs by simp [fws]]
      exact k1
    · refine ⟨k2.os, k2.tape, k2.output, k2.size, fun k hk => k2.block k (by omega) (fun e => ?_)⟩
      obtain ⟨_, ⟨q, _⟩ | ⟨g1, cap1, cur, q, q3, _⟩⟩ := hB
      · rw [q] at e; cases e
      · rw [q] at e
        simp only [Value.ownBlock, Option.some.injEq] at e
        omega

/-! The sums in numbers. -/
theorem ssum_set : ∀ {l : List Nat} {i : Nat} (h : i < l.length) (x : Nat), ssum (l.set i x) = ssum l - sv l[i] + sv x
  | f :: l, 0, h, x => by simp only [List.set_cons_zero, ssum, List.getElem_cons_zero]; omega
  | f :: l, i + 1, h, x => by
    simp only [List.set_cons_succ, ssum, List.getElem_cons_succ]
    rw [ssum_set (by simpa using h) x]; omega
theorem ssum_swap {l : List Nat} {p q : Nat} (hp : p < l.length) (hq : q < l.length) : ssum ((l.set p l[q]).set q l[p]) = ssum l := by
  rw [ssum_set (by simpa using hq), ssum_set hp, List.getElem_set]
  by_cases e : p = q
  · subst e; rw [if_pos rfl]; omega
  · rw [if_neg e]; omega
theorem swap_mem {l : List Nat} {p q f : Nat} (hp : p < l.length) (hq : q < l.length) (h : f ∈ (l.set p l[q]).set q l[p]) : f ∈ l := by
  rcases List.mem_or_eq_of_mem_set h with h | rfl
  · rcases List.mem_or_eq_of_mem_set h with h | rfl
    · exact h
    · exact List.getElem_mem hq
  · exact List.getElem_mem hp
theorem neg_sv {b : Nat} (h : b < 2 ^ 64) : sv (Op.negFloat .f64 b) = -(sv b) ∧ Op.negFloat .f64 b < 2 ^ 64 ∧ (Fin7 b → Fin7 (Op.negFloat .f64 b)) := by
  obtain ⟨h1, h2, h3⟩ := neg_bits h
  refine ⟨?_, h1, fun q => by unfold Fin7 at *; rw [h2]; exact q⟩
  unfold sv
  rw [h2, h3]
  cases ng b <;> simp
theorem int_word {z : Int} (h : z.natAbs ≤ 2 ^ 53) : Fin7 (zw z 0) ∧ sv (zw z 0) = z * ((2 ^ E7 : Nat) : Int) := by
  have hlim : z.natAbs < lim7 := Nat.lt_of_le_of_lt h (Nat.lt_of_lt_of_le (Nat.pow_lt_pow_right (by omega) (by unfold E8; omega)) lim_low)
  obtain ⟨f1, _, f3⟩ := near_f_fin hlim
  have e := near_f_small h
  refine ⟨f1, ?_⟩
  have := cmpI_none f3
  rw [← this, show swv (zw z 0) = z by omega]
theorem sum_word (S : Int) : zw (S * ((2 ^ E7 : Nat) : Int)) (-1074) = zw S 0 := by
  have hP : 0 < 2 ^ E7 := Nat.two_pow_pos _
  have e1 : (S * ((2 ^ E7 : Nat) : Int)).natAbs = S.natAbs * 2 ^ E7 := by rw [Int.natAbs_mul, Int.natAbs_natCast]
  have e2 : decide (S * ((2 ^ E7 : Nat) : Int) < 0) = decide (S < 0) := by
    have hp : (0 : Int) < ((2 ^ E7 : Nat) : Int) := by omega
    rw [decide_eq_decide]
    constructor
    · intro q
      refine Classical.byContradiction fun z => ?_
      have := Int.mul_nonneg (show 0 ≤ S by omega) (Int.le_of_lt hp)
      omega
    · intro q
      exact Int.mul_neg_of_neg_of_pos q hp
  unfold zw
  rw [e1, e2]
  have := nbits_shift S.natAbs E7 0
  rw [show (0 : Int) - (E7 : Nat) = -1074 from rfl] at this
  rw [this]
theorem zw_no (z n : Int) : zw z n < 2 ^ 64 ∧ ((zw z n : Int) == 9223372036854775808) = false := by
  have := nbits_le z.natAbs n
  unfold zw fw
  constructor
  · split <;> omega
  · rw [beq_eq_false_iff_ne]
    split <;> omega
/-- What the law's bits answers. -/
def bv (b : Nat) : Nat := if rg b = 0 then 0 else b
set_option maxHeartbeats 800000 in
theorem bits_any (b : Nat) (w : World) : Calls Tryd.prog 23 #[.float .f64 b] w fun e w' => e = .returned (.int .u64 (bv b : Int)) ∧ Below w.heap.size w w' := by
  have k1 := fbits_run b
  by_cases h : rg b = 0
  · have k2 : (FloatKind.f64.format.order b 0 == some .eq) = true := by
      show (Ieee.double.order b 0 == some .eq) = true
      rw [order_zero_eq, decide_eq_true h]
    have e : bv b = 0 := by unfold bv; rw [if_pos h]
    rw [e]
    clear h e
    go_enter Tryd.func23, Tryd.ntmps23
    go_wp2
    go_ret
    exact ⟨rfl, Below.refl _ _⟩
  · have k2 : (FloatKind.f64.format.order b 0 == some .eq) = false := by
      show (Ieee.double.order b 0 == some .eq) = false
      rw [order_zero_eq, decide_eq_false h]
    have e : bv b = b := by unfold bv; rw [if_neg h]
    rw [e]
    clear h e
    go_enter Tryd.func23, Tryd.ntmps23
    go_wp2
    go_ret
    exact ⟨rfl, Below.refl _ _⟩
end Go.Proofs.YtbamffggnnacaaaDoor
