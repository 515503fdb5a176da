/-
  QStepLawToTherePure: StepLaw, TherePure, joined.
-/
import Derived.Test.YtdeamihpgdblkaaDoorQSign4ToStepPure

/- StepLaw -/
namespace Go.Proofs.YtdeamihpgdblkaaDoor
open Go.RowKit
set_option linter.unusedVariables false

theorem good_one {B : Nat} {c : UInt8} (h : dv c.toNat < B) : [c] ≠ [] ∧ Good B [c] := ⟨by simp, fun b hb => by
  have : b = c := by simpa using hb
  rw [this]; exact h⟩
end Go.Proofs.YtdeamihpgdblkaaDoor

/- TherePure -/
namespace Go.Proofs.YtdeamihpgdblkaaDoor
open Go.RowKit
set_option linter.unusedVariables false

/-- The slice value v gathers the bytes L; its row lies from block B on. -/
def Bys (B : Nat) (w : World) (v : Value) (L : List Int) : Prop := w.ownsRow B 5 1 v L.length (bs L)
theorem Bys.nil (B : Nat) (w : World) : Bys B w (.slice none 0 0) [] := World.ownsRow_nil _ _ _ _
theorem Bys.now {B : Nat} {w w' : World} {v : Value} {L : List Int} (h : Bys B w v L) (hb : Below w.heap.size w w') : Bys B w' v L := by
  obtain ⟨q1, q2 | ⟨g, cap, cur, q2, q3, q4, q5⟩⟩ := h
  · exact ⟨q1, .inl q2⟩
  · exact ⟨q1, .inr ⟨g, cap, cur, q2, q3, (hb.block g (Array.getElem?_eq_some_iff.1 q4).1).trans q4, q5⟩⟩
theorem Bys.form {B : Nat} {w : World} {v : Value} {L : List Int} (h : Bys B w v L) : ∃ a cap, v = .slice a L.length cap := by
  obtain ⟨q1, ⟨q2, q3⟩ | ⟨g, cap, cur, q2, _⟩⟩ := h
  · exact ⟨none, 0, by rw [q2, q3]⟩
  · exact ⟨_, cap, q2⟩
theorem Bys.cells {B : Nat} {w : World} {a : Option Addr} {n cap : Nat} {L : List Int} (h : Bys B w (.slice a n cap) L) (hn : 0 < L.length) : ∃ g, a = some ⟨g, 0, none⟩ ∧ n = L.length ∧ ∀ i, i < L.length → w.cell? ⟨g, 0 + i, none⟩ = some (.int .u8 (L.getD i 0)) := by
  have h' := h
  obtain ⟨q1, ⟨q2, q3⟩ | ⟨g, cap', cur, q2, q3, q4, q5⟩⟩ := h
  · omega
  · simp only [Value.slice.injEq] at q2
    obtain ⟨rfl, rfl, rfl⟩ := q2
    refine ⟨g, rfl, rfl, fun i hi => ?_⟩
    have := World.ownsRow.cells h' (g := g) rfl i (.int .u8 L[i]) (by simp [bs, hi])
    rw [head_add] at this
    rw [Nat.zero_add, this]
    simp [hi]
theorem wpList_append_byte (w : World) {ops : Array Oper} {rest : List Oper} {o : Oper} {a : Act} {Q : Exit → Act → World → Prop}
    (hgd : o.guard = none) (s x : Operand) (hop : o.op = .call { callee := .builtin .append, args := #[s, x], argTypes := #[26, 26] })
    (B : Nat) (v : Value) (L : List Int) (c : Int) (hs : a.eval s = v) (hB : Bys B w v L) (g : Nat) (hx : a.eval x = .slice (some ⟨g, 0, none⟩) 1 1) (hc : w.cell? ⟨g, 0, none⟩ = some (.int .u8 c)) (hlen : L.length ≤ 1000000000) (hBs : B ≤ w.heap.size)
    (hK : ∀ a' cap' w', Hid (Bys B w' (.slice a' (L.length + 1) cap') (L ++ [c])) → Hid (KM w w') → Hid (Below B w w') → wpList Tryd.prog ops Q rest (a.put o.dst (.slice a' (L.length + 1) cap')) w') :
    wpList Tryd.prog ops Q (o :: rest) a w := by
  obtain ⟨i, hi, hz, hsz, hby⟩ := info_parts Tryd.infoB
  refine wpList_append_lies w hgd s x 26 hop B 5 i (.int .u8 0) 1 1 Tryd.underlying26 hi hz hsz hby rfl (by omega) v L.length (bs L) hs hB ⟨g, 0, none⟩ 1 1 [.int .u8 c] hx rfl ?_ ?_ (by omega) (by unfold maxLen; omega) (by omega) hBs w.heap.size rfl ?_
  · intro j u' hj
    match j, hj with
    | 0, hj => simp at hj; subst hj; rw [head_add]; exact hc
  · intro u' hu'
    simp at hu'
    subst hu'
    rfl
  · intro g' cap' w' k1 k2 k3 k4
    refine hK _ _ w' ?_ ?_ ?_
    · unfold Hid Bys
      have e : bs (L ++ [c]) = bs L ++ [.int .u8 c] := by simp [bs]
      rw [e, List.length_append, List.length_singleton]
      exact k1
    · intro u zs m
      obtain ⟨hw, m | ⟨b, r, cap, h1, h2, h3, h4, h5, h6⟩⟩ := m
      · exact ⟨hw, .inl m⟩
      · refine ⟨hw, .inr ⟨b, r, cap, h1, h2, h3, h4, h5, (k2.block b h6.lt fun e => ?_).trans h6⟩⟩
        obtain ⟨_, ⟨q, _⟩ | ⟨g1, cap1, cur, q, _, q4, _⟩⟩ := hB
        · rw [q] at e; cases e
        · rw [q] at e
          obtain rfl : b = g1 := by simpa [Value.ownBlock] using e
          have := h6.symm.trans q4
          simp at this
    · refine ⟨k2.os, k2.tape, k2.output, k2.size, fun k hk => k2.block k (by omega) (fun e => ?_)⟩
      obtain ⟨_, ⟨q, _⟩ | ⟨g1, cap1, cur, q, q3, _⟩⟩ := hB
      · rw [q] at e; cases e
      · rw [q] at e
        obtain rfl : k = g1 := by simpa [Value.ownBlock] using e
        omega
theorem wpList_append_byte_m (w : World) {ops : Array Oper} {rest : List Oper} {o : Oper} {a : Act} {Q : Exit → Act → World → Prop}
    (hgd : o.guard = none) (s x : Operand) (hop : o.op = .call { callee := .builtin .append, args := #[s, x], argTypes := #[26, 26] })
    (B : Nat) (v : Value) (L : List Int) (c : Int) (hs : a.eval s = v) (hB : Bys B w v L) (g : Nat) (hx : a.eval x = .slice (some ⟨g, 0, none⟩) 1 1) (hc : w.cell? ⟨g, 0, none⟩ = some (.int .u8 c)) (hlen : L.length ≤ 1000000000) (hBs : B ≤ w.heap.size)
    (hK : ∀ m a' cap' w', Hid (m = L.length + 1) → Hid (Bys B w' (.slice a' m cap') (L ++ [c])) → Hid (KM w w') → Hid (Below B w w') → wpList Tryd.prog ops Q rest (a.put o.dst (.slice a' m cap')) w') :
    wpList Tryd.prog ops Q (o :: rest) a w :=
  wpList_append_byte w hgd s x hop B v L c hs hB g hx hc hlen hBs fun a' cap' w' h1 h2 h3 => hK _ a' cap' w' rfl h1 h2 h3
theorem lead_snoc (a : List Nat) (d : Nat) : lead (a ++ [d]) = if lead a = [] then (if d = 0 then [] else [d]) else lead a ++ [d] := by
  unfold lead
  rw [List.dropWhile_append]
  by_cases h : a.dropWhile (· == 0) = []
  · rw [if_pos h, h]
    simp only [List.isEmpty_nil, if_true]
    rw [List.dropWhile_cons]
    by_cases e : d = 0
    · simp [e]
    · simp [e]
  · rw [if_neg h, if_neg (by simpa using h)]
/-- What the law writes of the first k bytes. -/
def wr4 (l : List UInt8) (k : Nat) : List Int := (lead ((dsL l).take k)).map sgn
theorem wr4_zero (l : List UInt8) : wr4 l 0 = [] := rfl
theorem wr4_len (l : List UInt8) (k : Nat) : (wr4 l k).length ≤ k := by
  unfold wr4 lead
  rw [List.length_map]
  exact Nat.le_trans (List.dropWhile_suffix _).length_le (by simp; omega)
theorem wr4_next {l : List UInt8} {k : Nat} (h : k < l.length) : wr4 l (k + 1) = if wr4 l k = [] ∧ dv l[k].toNat = 0 then [] else wr4 l k ++ [sgn (dv l[k].toNat)] := by
  have hl : k < (dsL l).length := by simp [dsL]; exact h
  have e : (dsL l)[k] = dv l[k].toNat := by simp [dsL]
  unfold wr4
  rw [List.take_succ_eq_append_getElem hl, e, lead_snoc]
  by_cases q : lead ((dsL l).take k) = []
  · rw [if_pos q, q]
    by_cases z : dv l[k].toNat = 0
    · rw [if_pos z, if_pos ⟨rfl, z⟩]; rfl
    · rw [if_neg z, if_neg (fun x => z x.2)]; rfl
  · rw [if_neg q, if_neg (fun x => q (by simpa using x.1)), List.map_append]
    rfl
/-- The text that the law has written is Text's. -/
theorem there_text {B : Nat} {l : List UInt8} (hB : 2 ≤ B) (hB2 : B ≤ 36) (hg : Good B l) : (if wr4 l l.length = [] then [48] else wr4 l l.length) = (txtL B (ofD B (dsL l))).map fun b => (b.toNat : Int) := by
  have hd : ∀ d ∈ dsL l, d < B := fun x hx => by
    obtain ⟨b, hb, rfl⟩ := List.mem_map.1 hx
    exact hg b hb
  have hlen : (dsL l).length = l.length := by simp [dsL]
  have hw : wr4 l l.length = (lead (dsL l)).map sgn := by
    unfold wr4
    rw [List.take_of_length_le (by omega)]
  have hn := ofD_lt (by omega : 0 < B) (dsL l) hd
  have e1 := digF_ofD (by omega : 0 < B) _ (dsL l) rfl hd
  rw [hw]
  by_cases z : ofD B (dsL l) = 0
  · have e2 : lead (dsL l) = [] := by rw [← e1, z]; exact lead_zero B _
    rw [e2, z]
    rfl
  · have e2 : lead (dsL l) ≠ [] := fun q => z (lead_nil (m := (dsL l).length) (by rw [e1]; exact q) hn)
    rw [if_neg (by simpa using e2)]
    unfold txtL
    rw [if_neg z, ← leadD_any hn (lt_pow_self hB _), e1, List.map_map]
    apply List.map_congr_left
    intro d hd2
    have hdB : d < 36 := Nat.lt_of_lt_of_le (hd d ((List.dropWhile_suffix _).subset hd2)) hB2
    have h1 := sgnB_nat hdB
    have h2 := sgn_range hdB
    simp only [Function.comp]
    rw [h1]
    omega
theorem str_of_txt (L : List UInt8) : strOfNums (L.map fun b => (b.toNat : Int)) = ⟨L.toArray⟩ := by
  unfold strOfNums
  rw [List.map_map]
  have e : (L.map ((fun n : Int => UInt8.ofNat n.toNat) ∘ fun b : UInt8 => (b.toNat : Int))) = L := by
    conv => rhs; rw [← List.map_id L]
    apply List.map_congr_left
    intro b _
    simp
  rw [e]
end Go.Proofs.YtdeamihpgdblkaaDoor
