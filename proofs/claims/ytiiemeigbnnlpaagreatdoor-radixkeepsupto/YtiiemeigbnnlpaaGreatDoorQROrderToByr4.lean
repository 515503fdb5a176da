/-
  QROrderToByr4: ROrder, RLeast, RP4, Byr4, joined.
-/
import Derived.Test.YtiiemeigbnnlpaaGreatDoorQSlIntsToRowsI
import Derived.Test.YtiiemeigbnnlpaaGreatDoorQSplitToJoin
import Derived.Test.YtiiemeigbnnlpaaGreatDoorQSign4ToTxtBack
import Derived.Test.YtiiemeigbnnlpaaGreatDoorQByteRowToOpenO4
import Derived.Test.YtiiemeigbnnlpaaGreatDoorQMulAllToWordful
import Derived.Deep.AppendLies

/- ROrder -/
namespace Go.Proofs.YtiiemeigbnnlpaaGreatDoor
open Go.RowKit

end Go.Proofs.YtiiemeigbnnlpaaGreatDoor

/- RLeast -/
namespace Go.Proofs.YtiiemeigbnnlpaaGreatDoor
open Go.RowKit

end Go.Proofs.YtiiemeigbnnlpaaGreatDoor

/- RP4 -/
namespace Go.Proofs.YtiiemeigbnnlpaaGreatDoor
set_option linter.unusedVariables false

/-- One step of a division by a small base. -/
theorem over_step {q rest x B V : Int} (hB : 0 < B) (hr0 : 0 ≤ rest) (hr : rest < B) (hx : IsD x) (hV : V = B * q + rest) :
    IsD ((rest * 65536 + x) / B) ∧ 0 ≤ (rest * 65536 + x) % B ∧ (rest * 65536 + x) % B < B ∧ x + dwB * V = B * ((rest * 65536 + x) / B + dwB * q) + (rest * 65536 + x) % B := by
  unfold IsD dwB at *
  have e := Int.mul_ediv_add_emod (rest * 65536 + x) B
  have h0 : 0 ≤ rest * 65536 + x := by omega
  have h1 : rest * 65536 + x < 65536 * B := by omega
  refine ⟨⟨Int.ediv_nonneg h0 (Int.le_of_lt hB), Int.ediv_lt_of_lt_mul hB h1⟩, Int.emod_nonneg _ (by omega), Int.emod_lt_of_pos _ hB, ?_⟩
  subst hV
  generalize (rest * 65536 + x) / B = Q at *
  generalize (rest * 65536 + x) % B = R at *
  grind
theorem take_set_last {xs qs : List Int} {j : Nat} {z : Int} (hj : j < xs.length) : (xs.take (j + 1) ++ qs).set j z = xs.take j ++ (z :: qs) := by
  rw [List.take_succ_eq_append_getElem hj, List.append_assoc, List.set_append_right _ _ (by simp; omega)]
  simp [Nat.min_eq_left (Nat.le_of_lt hj)]
theorem dval_drop {xs : List Int} {j : Nat} (hj : j < xs.length) : dval (xs.drop j) = xs[j] + dwB * dval (xs.drop (j + 1)) := by
  rw [List.drop_eq_getElem_cons hj]
  rfl
/-- The digits that stand when t have been taken off. -/
def lows (B n t : Nat) : List Int := (digF B t n).reverse.map sgn
theorem lows_len (B n t : Nat) : (lows B n t).length = t := by simp [lows, digF_len]
theorem lows_next (B n t : Nat) : lows B n (t + 1) = lows B n t ++ [sgn (n / B ^ t % B)] := by
  unfold lows
  rw [digF_next]
  simp
theorem lows_lead {B n t : Nat} (hB : 2 ≤ B) (h : n / B ^ t = 0) (h1 : 0 < t → n / B ^ (t - 1) ≠ 0) : (digF B t n).map sgnB = if n = 0 then [] else txtL B n := by
  have hp : 0 < B ^ t := Nat.pow_pos (by omega)
  have hn : n < B ^ t := by
    rcases Nat.div_eq_zero_iff.1 h with q | q
    · omega
    · exact q
  by_cases h0 : n = 0
  · subst h0
    have ht : t = 0 := by
      rcases Nat.eq_zero_or_pos t with q | q
      · exact q
      · exact absurd (Nat.zero_div _) (h1 q)
    subst ht
    simp [digF]
  · rw [if_neg h0]
    unfold txtL
    rw [if_neg h0, ← leadD_any hn (lt_pow_self hB n)]
    have ht : 0 < t := by
      rcases Nat.eq_zero_or_pos t with q | q
      · subst q; simp at h; omega
      · exact q
    obtain ⟨s, rfl⟩ : ∃ s, t = s + 1 := ⟨t - 1, by omega⟩
    have hd : n / B ^ s ≠ 0 := by simpa using h1 (by omega)
    have hl : n / B ^ s < B := by
      apply Nat.div_lt_of_lt_mul
      rw [Nat.pow_succ] at hn
      exact hn
    have e : digF B (s + 1) n = n / B ^ s :: digF B s n := by rw [digF_next, Nat.mod_eq_of_lt hl]
    rw [e]
    unfold lead
    rw [List.dropWhile_cons, if_neg (by simpa using hd)]
theorem div_next {n0 B t : Nat} {v q rest : Int} (h : v = ((n0 / B ^ t : Nat) : Int)) (hv : v = (B : Int) * q + rest) (h0 : 0 ≤ rest) (h1 : rest < (B : Int)) : q = ((n0 / B ^ (t + 1) : Nat) : Int) ∧ rest = ((n0 / B ^ t % B : Nat) : Int) := by
  have hB : (0 : Int) < (B : Int) := by omega
  have e1 : v / (B : Int) = q := by
    rw [hv, Int.mul_comm, Int.add_comm, Int.add_mul_ediv_right _ _ (by omega), Int.ediv_eq_zero_of_lt h0 h1]
    omega
  have e2 : v % (B : Int) = rest := by
    rw [hv, Int.mul_comm, Int.add_comm, Int.add_mul_emod_self_right, Int.emod_eq_of_lt h0 h1]
  rw [h] at e1 e2
  constructor
  · rw [← e1, Nat.pow_succ, ← Nat.div_div_eq_div_mul]
    rfl
  · rw [← e2]
    rfl
theorem steps_le {n0 B t K : Nat} (hB : 2 ≤ B) (h : n0 < 2 ^ K) (h1 : 0 < t → n0 / B ^ (t - 1) ≠ 0) : t ≤ K := by
  rcases Nat.eq_zero_or_pos t with q | q
  · omega
  · have h2 : B ^ (t - 1) ≤ n0 := Nat.le_of_not_lt fun hlt => h1 q (Nat.div_eq_of_lt hlt)
    have h3 : 2 ^ (t - 1) ≤ B ^ (t - 1) := Nat.pow_le_pow_left hB _
    have h4 : 2 ^ (t - 1) < 2 ^ K := by omega
    have := (Nat.pow_lt_pow_iff_right (by omega : 1 < 2)).1 h4
    omega
theorem quot_less {n B : Nat} {t : Nat} (hB : 2 ≤ B) (h : n / B ^ t ≠ 0) : n / B ^ (t + 1) < n / B ^ t := by
  rw [Nat.pow_succ, ← Nat.div_div_eq_div_mul]
  exact Nat.div_lt_self (Nat.pos_of_ne_zero h) hB
/-- The bytes of the reference's table of signs. -/
def sigT : ByteArray := ⟨#[48, 49, 50, 51, 52, 53, 54, 55, 56, 57, 97, 98, 99, 100, 101, 102, 103, 104, 105, 106, 107, 108, 109, 110, 111, 112, 113, 114, 115, 116, 117, 118, 119, 120, 121, 122]⟩
theorem sigT_size : sigT.size = 36 := rfl
theorem sigT_at : ∀ d : Nat, d < 36 → ∀ h : d < sigT.size, ((sigT[d]'h).toNat : Int) = sgn d := by
  have key : ∀ d : Fin 36, ((sigT[d.1]'(by have := d.2; rw [sigT_size]; omega)).toNat : Int) = sgn d.1 := by decide
  intro d hd h
  exact key ⟨d, hd⟩
end Go.Proofs.YtiiemeigbnnlpaaGreatDoor

/- Byr4 -/
namespace Go.Proofs.YtiiemeigbnnlpaaGreatDoor
open Go.RowKit
set_option linter.unusedVariables false

/-- The slice value v gathers the bytes L; its row lies from block B on. -/
def Byr (B : Nat) (w : World) (v : Value) (L : List Int) : Prop := w.ownsRow B 5 1 v L.length (bs L)
theorem Byr.nil (B : Nat) (w : World) : Byr B w (.slice none 0 0) [] := World.ownsRow_nil _ _ _ _
theorem Byr.keep {B : Nat} {w w' : World} {v : Value} {L : List Int} (h : Byr B w v L) (hb : ∀ g, B ≤ g → g < w.heap.size → w'.heap[g]? = w.heap[g]?) : Byr B w' v L := by
  obtain ⟨q1, q2 | ⟨g, cap, cur, q2, q3, q4, q5⟩⟩ := h
  · exact ⟨q1, .inl q2⟩
  · exact ⟨q1, .inr ⟨g, cap, cur, q2, q3, (hb g q3 (Array.getElem?_eq_some_iff.1 q4).1).trans q4, q5⟩⟩
theorem Byr.now {B : Nat} {w w' : World} {v : Value} {L : List Int} (h : Byr B w v L) (hb : Below w.heap.size w w') : Byr B w' v L := h.keep fun g _ hg => hb.block g hg
theorem Byr.form {B : Nat} {w : World} {v : Value} {L : List Int} (h : Byr B w v L) : ∃ a cap, v = .slice a L.length cap := by
  obtain ⟨q1, ⟨q2, q3⟩ | ⟨g, cap, cur, q2, _⟩⟩ := h
  · exact ⟨none, 0, by rw [q2, q3]⟩
  · exact ⟨_, cap, q2⟩
theorem Byr.cells {B : Nat} {w : World} {a : Option Addr} {n cap : Nat} {L : List Int} (h : Byr B w (.slice a n cap) L) (hn : 0 < L.length) : ∃ g, a = some ⟨g, 0, none⟩ ∧ n = L.length ∧ B ≤ g ∧ g < w.heap.size ∧ ∀ i, i < L.length → w.cell? ⟨g, i, none⟩ = some (.int .u8 (L.getD i 0)) := by
  have h' := h
  obtain ⟨q1, ⟨q2, q3⟩ | ⟨g, cap', cur, q2, q3, q4, q5⟩⟩ := h
  · omega
  · simp only [Value.slice.injEq] at q2
    obtain ⟨rfl, rfl, rfl⟩ := q2
    refine ⟨g, rfl, rfl, q3, (Array.getElem?_eq_some_iff.1 q4).1, fun i hi => ?_⟩
    have := World.ownsRow.cells h' (g := g) rfl i (.int .u8 L[i]) (by simp [bs, hi])
    rw [head_add] at this
    rw [this]
    simp [hi]
theorem wpList_append_byr (w : World) {ops : Array Oper} {rest : List Oper} {o : Oper} {a : Act} {Q : Exit → Act → World → Prop}
    (hgd : o.guard = none) (s x : Operand) (hop : o.op = .call { callee := .builtin .append, args := #[s, x], argTypes := #[51, 51] })
    (B : Nat) (v : Value) (L : List Int) (c : Int) (hs : a.eval s = v) (hB : Byr B w v L) (g : Nat) (hx : a.eval x = .slice (some ⟨g, 0, none⟩) 1 1) (hc : w.cell? ⟨g, 0, none⟩ = some (.int .u8 c)) (hlen : L.length ≤ 1000000000) (hBs : B ≤ w.heap.size)
    (hK : ∀ m a' cap' w', Hid (m = L.length + 1) → Hid (Byr B w' (.slice a' m cap') (L ++ [c])) → Hid (Below B w w') → wpList Tryz.prog ops Q rest (a.put o.dst (.slice a' m cap')) w') :
    wpList Tryz.prog ops Q (o :: rest) a w := by
  obtain ⟨i, hi, hz, hsz, hby⟩ := info_parts Tryz.infoB
  refine wpList_append_lies w hgd s x 51 hop B 5 i (.int .u8 0) 1 1 Tryz.underlying51 hi hz hsz hby rfl (by omega) v L.length (bs L) hs hB ⟨g, 0, none⟩ 1 1 [.int .u8 c] hx rfl ?_ ?_ (by omega) (by unfold maxLen; omega) (by omega) hBs w.heap.size rfl ?_
  · intro j u' hj
    match j, hj with
    | 0, hj => simp at hj; subst hj; rw [head_add]; exact hc
  · intro u' hu'
    simp at hu'
    subst hu'
    rfl
  · intro g' cap' w' k1 k2 k3 k4
    refine hK _ _ _ w' rfl ?_ ?_
    · unfold Hid Byr
      have e : bs (L ++ [c]) = bs L ++ [.int .u8 c] := by simp [bs]
      rw [e, List.length_append, List.length_singleton]
      exact k1
    · refine ⟨k2.os, k2.tape, k2.output, k2.size, fun k hk => k2.block k (by omega) (fun e => ?_)⟩
      obtain ⟨_, ⟨q, _⟩ | ⟨g1, cap1, cur, q, q3, _⟩⟩ := hB
      · rw [q] at e; cases e
      · rw [q] at e
        obtain rfl : k = g1 := by simpa [Value.ownBlock] using e
        omega
end Go.Proofs.YtiiemeigbnnlpaaGreatDoor
