/-
  QSign4ToTherePure: Sign4, StepPure, StepLaw, TherePure, joined.
-/
import Derived.Test.YtdhmbalkclbhpaaGreatDoorQJoinedToTxtBack
import Derived.Test.YtdhmbalkclbhpaaGreatDoorQTextToValueOf

/- Sign4 -/
namespace Go.Proofs.YtdhmbalkclbhpaaGreatDoor
open Go.RowKit
set_option linter.unusedVariables false

/-- The value that the law's sign answers. -/
def sgv (c : Nat) : Int := if 48 ≤ c ∧ c ≤ 57 then (c : Int) - 48 else if 97 ≤ c ∧ c ≤ 122 then (c : Int) - 87 else if 65 ≤ c ∧ c ≤ 90 then (c : Int) - 55 else -1
theorem sgv_ok {c B : Nat} (hB : B ≤ 36) : (0 ≤ sgv c ∧ sgv c < (B : Int)) ↔ dv c < B := by
  unfold sgv dv
  (repeat' split) <;> omega
theorem sgv_dv {c : Nat} (h : dv c < 36) : sgv c = (dv c : Int) := by
  unfold dv at h ⊢
  unfold sgv
  (repeat' split at h) <;> (repeat' split) <;> omega
theorem txt_ff : txt 16 255 = ⟨#[102, 102]⟩ := by
  have e : lead (digF 16 255 255) = [15, 15] := by
    rw [leadD_any (k := 2) (lt_pow_self (by omega) 255) (by decide)]
    decide
  unfold txt txtL
  rw [if_neg (by decide), e]
  rfl
end Go.Proofs.YtdhmbalkclbhpaaGreatDoor

/- StepPure -/
namespace Go.Proofs.YtdhmbalkclbhpaaGreatDoor
open Go.RowKit
set_option linter.unusedVariables false

theorem conv_one (w : World) (c : UInt8) : (convert 45 9 (.slice (some ⟨w.heap.size, 0, none⟩) 1 1)).run Tryz.prog (w.alloc (.cells #[.int .u8 (c.toNat : Int)] 5)) = .ok (.string ⟨#[c]⟩) (w.alloc (.cells #[.int .u8 (c.toNat : Int)] 5)) := by
  have h := run_convert_bytes_arg (P := Tryz.prog) (w.alloc (.cells #[.int .u8 (c.toNat : Int)] 5)) 45 5 Tryz.underlying45 Tryz.underlying5 w.heap.size 0 1 1 [(c.toNat : Int)] rfl (fun i hi => by
    obtain rfl : i = 0 := by omega
    have := heap_alloc_new w (.cells #[.int .u8 (c.toNat : Int)] 5)
    simp only [World.cell?, this]
    rfl) 9 Tryz.underlying9
  rw [h]
  have e : strOfNums [(c.toNat : Int)] = ⟨#[c]⟩ := by
    unfold strOfNums
    simp
  rw [e]
theorem str_snoc (l : List UInt8) (c : UInt8) : (⟨l.toArray⟩ : ByteArray) ++ ⟨#[c]⟩ = ⟨(l ++ [c]).toArray⟩ := by
  apply ByteArray.ext
  simp
/-- What Read answers, in one form. -/
def ReadTo (w : World) (E : Int) (V : Nat) (e : Ending) (w' : World) : Prop := ∃ zs a c, e = .returned (.tuple #[.slice a zs.length c, .int .i64 E]) ∧ Mine 0 w' (.slice a zs.length c) zs ∧ Canon zs ∧ vn zs = V ∧ Below w.heap.size w w'
theorem read_good {w : World} {B : Nat} {l : List UInt8} (hB : 2 ≤ B) (hB2 : B ≤ 36) (hT : Sg w) (hl : l.length ≤ 1000000000) (h : l ≠ [] ∧ Good B l) : Calls Tryz.prog 53 #[.string ⟨l.toArray⟩, .int .i64 (B : Int)] w (ReadTo w 0 (ofD B (dsL l))) :=
  (read_any hB hB2 hT hl).mono fun e w' hp => by
    rcases hp with ⟨_, zs, a, c, h1, h2, h3, h4, h5⟩ | ⟨q, _⟩
    · exact ⟨zs, a, c, h1, h2, h3, h4, h5⟩
    · exact absurd h q
theorem read_none {w : World} {B : Nat} {l : List UInt8} (hB : 2 ≤ B) (hB2 : B ≤ 36) (hT : Sg w) (hl : l.length ≤ 1000000000) (h : ¬ (l ≠ [] ∧ Good B l)) : Calls Tryz.prog 53 #[.string ⟨l.toArray⟩, .int .i64 (B : Int)] w (ReadTo w 7 0) :=
  (read_any hB hB2 hT hl).mono fun e w' hp => by
    rcases hp with ⟨q, _⟩ | ⟨_, h1, h2⟩
    · exact absurd q h
    · exact ⟨[], none, 0, h1, Mine.nil _ _, canon_nil, rfl, h2⟩
theorem good_snoc {B : Nat} {l : List UInt8} {c : UInt8} : Good B (l ++ [c]) ↔ Good B l ∧ dv c.toNat < B := by
  unfold Good
  constructor
  · intro h
    exact ⟨fun b hb => h b (by simp [hb]), h c (by simp)⟩
  · rintro ⟨h1, h2⟩ b hb
    rcases List.mem_append.1 hb with q | q
    · exact h1 b q
    · have : b = c := by simpa using q
      rw [this]; exact h2
theorem ofD_next {B : Nat} {l : List UInt8} {c : UInt8} : ofD B (dsL (l ++ [c])) = ofD B (dsL l) * B + dv c.toNat := by
  unfold dsL
  rw [List.map_append, List.map_cons, List.map_nil, ofD_snoc]
theorem canon_lt {zs : List Int} (hz : Canon zs) {B n : Nat} (hB : B ≤ 36) (h : vn zs < B ^ n) (hn : n ≤ 1048577) : zs.length ≤ 1048576 := by
  obtain ⟨m, hm⟩ : ∃ m, m = 1048576 := ⟨_, rfl⟩
  rw [← hm]
  refine canon_len hz ?_
  rw [val_vn hz.1, pw_pow]
  have h1 : B ^ n ≤ (2 ^ 6) ^ n := Nat.pow_le_pow_left (by omega) n
  rw [← Nat.pow_mul] at h1
  have h2 : 2 ^ (6 * n) ≤ 2 ^ (64 * m) := Nat.pow_le_pow_right (by omega) (by omega)
  have h3 : vn zs < 2 ^ (64 * m) := Nat.lt_of_lt_of_le (Nat.lt_of_lt_of_le h h1) h2
  have h4 : ((2 : Int) ^ (64 * m)) = ((2 ^ (64 * m) : Nat) : Int) := by simp
  rw [h4]
  exact Int.ofNat_lt.2 h3
/-- How many digits a number one digit longer has. -/
theorem txtL_next {B n d : Nat} (hB : 2 ≤ B) (hd : d < B) (hn : n ≠ 0) : (txtL B (n * B + d)).length = (txtL B n).length + 1 := by
  have hpos : n * B + d ≠ 0 := by
    have : 1 * B ≤ n * B := Nat.mul_le_mul_right _ (by omega)
    omega
  unfold txtL
  rw [if_neg hpos, if_neg hn, List.length_map, List.length_map]
  have h1 : n * B + d < B ^ (n + 1) := by
    have h2 := lt_pow_self hB n
    have h3 : (n + 1) * B ≤ B ^ n * B := Nat.mul_le_mul_right _ h2
    rw [Nat.add_mul, Nat.one_mul, ← Nat.pow_succ] at h3
    exact Nat.lt_of_lt_of_le (by omega) h3
  rw [leadD_any (lt_pow_self hB (n * B + d)) h1]
  have e : digF B (n + 1) (n * B + d) = digF B n n ++ [d] := by
    rw [digF]
    have e1 : (n * B + d) / B = n := by rw [Nat.mul_comm, Nat.mul_add_div (by omega), Nat.div_eq_of_lt hd, Nat.add_zero]
    have e2 : (n * B + d) % B = d := by rw [Nat.mul_comm, Nat.mul_add_mod, Nat.mod_eq_of_lt hd]
    rw [e1, e2]
  rw [e]
  have hl : lead (digF B n n) ≠ [] := fun q => hn (lead_nil q (lt_pow_self hB n))
  have hla : lead (digF B n n ++ [d]) = lead (digF B n n) ++ [d] := by
    unfold lead at hl ⊢
    rw [List.dropWhile_append, if_neg (by simpa using hl)]
  rw [hla, List.length_append, List.length_singleton]
theorem txtL_zero {B d : Nat} (hB : 2 ≤ B) (hd : d < B) : (txtL B d).length = 1 := by
  by_cases h : d = 0
  · subst h; rfl
  · unfold txtL
    rw [if_neg h, List.length_map]
    have h1 : d < B ^ 1 := by simpa using hd
    rw [leadD_any (lt_pow_self hB d) h1]
    have e : digF B 1 d = [d] := by simp [digF, Nat.mod_eq_of_lt hd]
    rw [e]
    unfold lead
    rw [List.dropWhile_cons]
    simp [h]
end Go.Proofs.YtdhmbalkclbhpaaGreatDoor

/- StepLaw -/
namespace Go.Proofs.YtdhmbalkclbhpaaGreatDoor
open Go.RowKit
set_option linter.unusedVariables false

theorem good_one {B : Nat} {c : UInt8} (h : dv c.toNat < B) : [c] ≠ [] ∧ Good B [c] := ⟨by simp, fun b hb => by
  have : b = c := by simpa using hb
  rw [this]; exact h⟩
end Go.Proofs.YtdhmbalkclbhpaaGreatDoor

/- TherePure -/
namespace Go.Proofs.YtdhmbalkclbhpaaGreatDoor
open Go.RowKit
set_option linter.unusedVariables false

/-- The slice value v gathers the bytes L; its row lies from block B on. -/
def Bys (B : Nat) (w : World) (v : Value) (L : List Int) : Prop := w.ownsRow B 5 1 v L.length (bs L)
theorem Bys.nil (B : Nat) (w : World) : Bys B w (.slice none 0 0) [] := World.ownsRow_nil _ _ _ _
theorem Bys.now {B : Nat} {w w' : World} {v : Value} {L : List Int} (h : Bys B w v L) (hb : Below w.heap.size w w') : Bys B w' v L := by
  obtain ⟨q1, q2 | ⟨g, cap, cur, q2, q3, q4, q5⟩⟩ := h
  · exact ⟨q1, .inl q2⟩
  · exact ⟨q1, .inr ⟨g, cap, cur, q2, q3, (hb.block g (Array.getElem?_eq_some_iff.1 q4).1).trans q4, q5⟩⟩
theorem Bys.form {B : Nat} {w : World} {v : Value} {L : List Int} (h : Bys B w v L) : ∃ a cap, v = .slice a L.length cap := by
  obtain ⟨q1, ⟨q2, q3⟩ | ⟨g, cap, cur, q2, _⟩⟩ := h
  · exact ⟨none, 0, by rw [q2, q3]⟩
  · exact ⟨_, cap, q2⟩
theorem Bys.cells {B : Nat} {w : World} {a : Option Addr} {n cap : Nat} {L : List Int} (h : Bys B w (.slice a n cap) L) (hn : 0 < L.length) : ∃ g, a = some ⟨g, 0, none⟩ ∧ n = L.length ∧ ∀ i, i < L.length → w.cell? ⟨g, 0 + i, none⟩ = some (.int .u8 (L.getD i 0)) := by
  have h' := h
  obtain ⟨q1, ⟨q2, q3⟩ | ⟨g, cap', cur, q2, q3, q4, q5⟩⟩ := h
  · omega
  · simp only [Value.slice.injEq] at q2
    obtain ⟨rfl, rfl, rfl⟩ := q2
    refine ⟨g, rfl, rfl, fun i hi => ?_⟩
    have := World.ownsRow.cells h' (g := g) rfl i (.int .u8 L[i]) (by simp [bs, hi])
    rw [head_add] at this
    rw [Nat.zero_add, this]
    simp [hi]
theorem wpList_append_byte (w : World) {ops : Array Oper} {rest : List Oper} {o : Oper} {a : Act} {Q : Exit → Act → World → Prop}
    (hgd : o.guard = none) (s x : Operand) (hop : o.op = .call { callee := .builtin .append, args := #[s, x], argTypes := #[45, 45] })
    (B : Nat) (v : Value) (L : List Int) (c : Int) (hs : a.eval s = v) (hB : Bys B w v L) (g : Nat) (hx : a.eval x = .slice (some ⟨g, 0, none⟩) 1 1) (hc : w.cell? ⟨g, 0, none⟩ = some (.int .u8 c)) (hlen : L.length ≤ 1000000000) (hBs : B ≤ w.heap.size)
    (hK : ∀ a' cap' w', Hid (Bys B w' (.slice a' (L.length + 1) cap') (L ++ [c])) → Hid (KM w w') → Hid (Below B w w') → wpList Tryz.prog ops Q rest (a.put o.dst (.slice a' (L.length + 1) cap')) w') :
    wpList Tryz.prog ops Q (o :: rest) a w := by
  obtain ⟨i, hi, hz, hsz, hby⟩ := info_parts Tryz.infoB
  refine wpList_append_lies w hgd s x 45 hop B 5 i (.int .u8 0) 1 1 Tryz.underlying45 hi hz hsz hby rfl (by omega) v L.length (bs L) hs hB ⟨g, 0, none⟩ 1 1 [.int .u8 c] hx rfl ?_ ?_ (by omega) (by unfold maxLen; omega) (by omega) hBs w.heap.size rfl ?_
  · intro j u' hj
    match j, hj with
    | 0, hj => simp at hj; subst hj; rw [head_add]; exact hc
  · intro u' hu'
    simp at hu'
    subst hu'
    rfl
  · intro g' cap' w' k1 k2 k3 k4
    refine hK _ _ w' ?_ ?_ ?_
    · unfold Hid Bys
      have e : bs (L ++ [c]) = bs L ++ [.int .u8 c] := by simp [bs]
      rw [e, List.length_append, List.length_singleton]
      exact k1
    · intro u zs m
      obtain ⟨hw, m | ⟨b, r, cap, h1, h2, h3, h4, h5, h6⟩⟩ := m
      · exact ⟨hw, .inl m⟩
      · refine ⟨hw, .inr ⟨b, r, cap, h1, h2, h3, h4, h5, (k2.block b h6.lt fun e => ?_).trans h6⟩⟩
        obtain ⟨_, ⟨q, _⟩ | ⟨g1, cap1, cur, q, _, q4, _⟩⟩ := hB
        · rw [q] at e; cases e
        · rw [q] at e
          obtain rfl : b = g1 := by simpa [Value.ownBlock] using e
          have := h6.symm.trans q4
          simp at this
    · refine ⟨k2.os, k2.tape, k2.output, k2.size, fun k hk => k2.block k (by omega) (fun e => ?_)⟩
      obtain ⟨_, ⟨q, _⟩ | ⟨g1, cap1, cur, q, q3, _⟩⟩ := hB
      · rw [q] at e; cases e
      · rw [q] at e
        obtain rfl : k = g1 := by simpa [Value.ownBlock] using e
        omega
theorem wpList_append_byte_m (w : World) {ops : Array Oper} {rest : List Oper} {o : Oper} {a : Act} {Q : Exit → Act → World → Prop}
    (hgd : o.guard = none) (s x : Operand) (hop : o.op = .call { callee := .builtin .append, args := #[s, x], argTypes := #[45, 45] })
    (B : Nat) (v : Value) (L : List Int) (c : Int) (hs : a.eval s = v) (hB : Bys B w v L) (g : Nat) (hx : a.eval x = .slice (some ⟨g, 0, none⟩) 1 1) (hc : w.cell? ⟨g, 0, none⟩ = some (.int .u8 c)) (hlen : L.length ≤ 1000000000) (hBs : B ≤ w.heap.size)
    (hK : ∀ m a' cap' w', Hid (m = L.length + 1) → Hid (Bys B w' (.slice a' m cap') (L ++ [c])) → Hid (KM w w') → Hid (Below B w w') → wpList Tryz.prog ops Q rest (a.put o.dst (.slice a' m cap')) w') :
    wpList Tryz.prog ops Q (o :: rest) a w :=
  wpList_append_byte w hgd s x hop B v L c hs hB g hx hc hlen hBs fun a' cap' w' h1 h2 h3 => hK _ a' cap' w' rfl h1 h2 h3
theorem lead_snoc (a : List Nat) (d : Nat) : lead (a ++ [d]) = if lead a = [] then (if d = 0 then [] else [d]) else lead a ++ [d] := by
  unfold lead
  rw [List.dropWhile_append]
  by_cases h : a.dropWhile (· == 0) = []
  · rw [if_pos h, h]
    simp only [List.isEmpty_nil, if_true]
    rw [List.dropWhile_cons]
    by_cases e : d = 0
    · simp [e]
    · simp [e]
  · rw [if_neg h, if_neg (by simpa using h)]
/-- What the law writes of the first k bytes. -/
def wr4 (l : List UInt8) (k : Nat) : List Int := (lead ((dsL l).take k)).map sgn
theorem wr4_zero (l : List UInt8) : wr4 l 0 = [] := rfl
theorem wr4_len (l : List UInt8) (k : Nat) : (wr4 l k).length ≤ k := by
  unfold wr4 lead
  rw [List.length_map]
  exact Nat.le_trans (List.dropWhile_suffix _).length_le (by simp; omega)
theorem wr4_next {l : List UInt8} {k : Nat} (h : k < l.length) : wr4 l (k + 1) = if wr4 l k = [] ∧ dv l[k].toNat = 0 then [] else wr4 l k ++ [sgn (dv l[k].toNat)] := by
  have hl : k < (dsL l).length := by simp [dsL]; exact h
  have e : (dsL l)[k] = dv l[k].toNat := by simp [dsL]
  unfold wr4
  rw [List.take_succ_eq_append_getElem hl, e, lead_snoc]
  by_cases q : lead ((dsL l).take k) = []
  · rw [if_pos q, q]
    by_cases z : dv l[k].toNat = 0
    · rw [if_pos z, if_pos ⟨rfl, z⟩]; rfl
    · rw [if_neg z, if_neg (fun x => z x.2)]; rfl
  · rw [if_neg q, if_neg (fun x => q (by simpa using x.1)), List.map_append]
    rfl
/-- The text that the law has written is Text's. -/
theorem there_text {B : Nat} {l : List UInt8} (hB : 2 ≤ B) (hB2 : B ≤ 36) (hg : Good B l) : (if wr4 l l.length = [] then [48] else wr4 l l.length) = (txtL B (ofD B (dsL l))).map fun b => (b.toNat : Int) := by
  have hd : ∀ d ∈ dsL l, d < B := fun x hx => by
    obtain ⟨b, hb, rfl⟩ := List.mem_map.1 hx
    exact hg b hb
  have hlen : (dsL l).length = l.length := by simp [dsL]
  have hw : wr4 l l.length = (lead (dsL l)).map sgn := by
    unfold wr4
    rw [List.take_of_length_le (by omega)]
  have hn := ofD_lt (by omega : 0 < B) (dsL l) hd
  have e1 := digF_ofD (by omega : 0 < B) _ (dsL l) rfl hd
  rw [hw]
  by_cases z : ofD B (dsL l) = 0
  · have e2 : lead (dsL l) = [] := by rw [← e1, z]; exact lead_zero B _
    rw [e2, z]
    rfl
  · have e2 : lead (dsL l) ≠ [] := fun q => z (lead_nil (m := (dsL l).length) (by rw [e1]; exact q) hn)
    rw [if_neg (by simpa using e2)]
    unfold txtL
    rw [if_neg z, ← leadD_any hn (lt_pow_self hB _), e1, List.map_map]
    apply List.map_congr_left
    intro d hd2
    have hdB : d < 36 := Nat.lt_of_lt_of_le (hd d ((List.dropWhile_suffix _).subset hd2)) hB2
    have h1 := sgnB_nat hdB
    have h2 := sgn_range hdB
    simp only [Function.comp]
    rw [h1]
    omega
theorem str_of_txt (L : List UInt8) : strOfNums (L.map fun b => (b.toNat : Int)) = ⟨L.toArray⟩ := by
  unfold strOfNums
  rw [List.map_map]
  have e : (L.map ((fun n : Int => UInt8.ofNat n.toNat) ∘ fun b : UInt8 => (b.toNat : Int))) = L := by
    conv => rhs; rw [← List.map_id L]
    apply List.map_congr_left
    intro b _
    simp
  rw [e]
end Go.Proofs.YtdhmbalkclbhpaaGreatDoor
