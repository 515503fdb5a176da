/-
  QStepPureToBackPure: StepPure, BackPure, joined.
-/
import Derived.Test.YtaflidiokhaljaaDoorQSign4ToUpTo4
import Derived.Test.YtaflidiokhaljaaDoorQBuild4ToGroup4
import Derived.Test.YtaflidiokhaljaaDoorQOpenS4ToRGroup4
import Derived.Test.YtaflidiokhaljaaDoorQReadToTxtBack

/- StepPure -/
namespace Go.Proofs.YtaflidiokhaljaaDoor
open Go.RowKit
set_option linter.unusedVariables false

theorem conv_one (w : World) (c : UInt8) : (convert 45 9 (.slice (some ⟨w.heap.size, 0, none⟩) 1 1)).run Tryd.prog (w.alloc (.cells #[.int .u8 (c.toNat : Int)] 5)) = .ok (.string ⟨#[c]⟩) (w.alloc (.cells #[.int .u8 (c.toNat : Int)] 5)) := by
  have h := run_convert_bytes_arg (P := Tryd.prog) (w.alloc (.cells #[.int .u8 (c.toNat : Int)] 5)) 45 5 Tryd.underlying45 Tryd.underlying5 w.heap.size 0 1 1 [(c.toNat : Int)] rfl (fun i hi => by
    obtain rfl : i = 0 := by omega
    have := heap_alloc_new w (.cells #[.int .u8 (c.toNat : Int)] 5)
    simp only [World.cell?, this]
    rfl) 9 Tryd.underlying9
  rw [h]
  have e : strOfNums [(c.toNat : Int)] = ⟨#[c]⟩ := by
    unfold strOfNums
    simp
  rw [e]
theorem str_snoc (l : List UInt8) (c : UInt8) : (⟨l.toArray⟩ : ByteArray) ++ ⟨#[c]⟩ = ⟨(l ++ [c]).toArray⟩ := by
  apply ByteArray.ext
  simp
/-- What Read answers, in one form. -/
def ReadTo (w : World) (E : Int) (V : Nat) (e : Ending) (w' : World) : Prop := ∃ zs a c, e = .returned (.tuple #[.slice a zs.length c, .int .i64 E]) ∧ Mine 0 w' (.slice a zs.length c) zs ∧ Canon zs ∧ vn zs = V ∧ Below w.heap.size w w'
theorem read_good {w : World} {B : Nat} {l : List UInt8} (hB : 2 ≤ B) (hB2 : B ≤ 36) (hT : Sg w) (hl : l.length ≤ 1000000000) (h : l ≠ [] ∧ Good B l) : Calls Tryd.prog 19 #[.string ⟨l.toArray⟩, .int .i64 (B : Int)] w (ReadTo w 0 (ofD B (dsL l))) :=
  (read_any hB hB2 hT hl).mono fun e w' hp => by
    rcases hp with ⟨_, zs, a, c, h1, h2, h3, h4, h5⟩ | ⟨q, _⟩
    · exact ⟨zs, a, c, h1, h2, h3, h4, h5⟩
    · exact absurd h q
theorem read_none {w : World} {B : Nat} {l : List UInt8} (hB : 2 ≤ B) (hB2 : B ≤ 36) (hT : Sg w) (hl : l.length ≤ 1000000000) (h : ¬ (l ≠ [] ∧ Good B l)) : Calls Tryd.prog 19 #[.string ⟨l.toArray⟩, .int .i64 (B : Int)] w (ReadTo w 7 0) :=
  (read_any hB hB2 hT hl).mono fun e w' hp => by
    rcases hp with ⟨q, _⟩ | ⟨_, h1, h2⟩
    · exact absurd q h
    · exact ⟨[], none, 0, h1, Mine.nil _ _, canon_nil, rfl, h2⟩
theorem good_snoc {B : Nat} {l : List UInt8} {c : UInt8} : Good B (l ++ [c]) ↔ Good B l ∧ dv c.toNat < B := by
  unfold Good
  constructor
  · intro h
    exact ⟨fun b hb => h b (by simp [hb]), h c (by simp)⟩
  · rintro ⟨h1, h2⟩ b hb
    rcases List.mem_append.1 hb with q | q
    · exact h1 b q
    · have : b = c := by simpa using q
      rw [this]; exact h2
theorem ofD_next {B : Nat} {l : List UInt8} {c : UInt8} : ofD B (dsL (l ++ [c])) = ofD B (dsL l) * B + dv c.toNat := by
  unfold dsL
  rw [List.map_append, List.map_cons, List.map_nil, ofD_snoc]
theorem canon_lt {zs : List Int} (hz : Canon zs) {B n : Nat} (hB : B ≤ 36) (h : vn zs < B ^ n) (hn : n ≤ 1048577) : zs.length ≤ 1048576 := by
  obtain ⟨m, hm⟩ : ∃ m, m = 1048576 := ⟨_, rfl⟩
  rw [← hm]
  refine canon_len hz ?_
  rw [val_vn hz.1, pw_pow]
  have h1 : B ^ n ≤ (2 ^ 6) ^ n := Nat.pow_le_pow_left (by omega) n
  rw [← Nat.pow_mul] at h1
  have h2 : 2 ^ (6 * n) ≤ 2 ^ (64 * m) := Nat.pow_le_pow_right (by omega) (by omega)
  have h3 : vn zs < 2 ^ (64 * m) := Nat.lt_of_lt_of_le (Nat.lt_of_lt_of_le h h1) h2
  have h4 : ((2 : Int) ^ (64 * m)) = ((2 ^ (64 * m) : Nat) : Int) := by simp
  rw [h4]
  exact Int.ofNat_lt.2 h3
/-- How many digits a number one digit longer has. -/
theorem txtL_next {B n d : Nat} (hB : 2 ≤ B) (hd : d < B) (hn : n ≠ 0) : (txtL B (n * B + d)).length = (txtL B n).length + 1 := by
  have hpos : n * B + d ≠ 0 := by
    have : 1 * B ≤ n * B := Nat.mul_le_mul_right _ (by omega)
    omega
  unfold txtL
  rw [if_neg hpos, if_neg hn, List.length_map, List.length_map]
  have h1 : n * B + d < B ^ (n + 1) := by
    have h2 := lt_pow_self hB n
    have h3 : (n + 1) * B ≤ B ^ n * B := Nat.mul_le_mul_right _ h2
    rw [Nat.add_mul, Nat.one_mul, ← Nat.pow_succ] at h3
    exact Nat.lt_of_lt_of_le (by omega) h3
  rw [leadD_any (lt_pow_self hB (n * B + d)) h1]
  have e : digF B (n + 1) (n * B + d) = digF B n n ++ [d] := by
    rw [digF]
    have e1 : (n * B + d) / B = n := by rw [Nat.mul_comm, Nat.mul_add_div (by omega), Nat.div_eq_of_lt hd, Nat.add_zero]
    have e2 : (n * B + d) % B = d := by rw [Nat.mul_comm, Nat.mul_add_mod, Nat.mod_eq_of_lt hd]
    rw [e1, e2]
  rw [e]
  have hl : lead (digF B n n) ≠ [] := fun q => hn (lead_nil q (lt_pow_self hB n))
  have hla : lead (digF B n n ++ [d]) = lead (digF B n n) ++ [d] := by
    unfold lead at hl ⊢
    rw [List.dropWhile_append, if_neg (by simpa using hl)]
  rw [hla, List.length_append, List.length_singleton]
theorem txtL_zero {B d : Nat} (hB : 2 ≤ B) (hd : d < B) : (txtL B d).length = 1 := by
  by_cases h : d = 0
  · subst h; rfl
  · unfold txtL
    rw [if_neg h, List.length_map]
    have h1 : d < B ^ 1 := by simpa using hd
    rw [leadD_any (lt_pow_self hB d) h1]
    have e : digF B 1 d = [d] := by simp [digF, Nat.mod_eq_of_lt hd]
    rw [e]
    unfold lead
    rw [List.dropWhile_cons]
    simp [h]
end Go.Proofs.YtaflidiokhaljaaDoor

/- BackPure -/
namespace Go.Proofs.YtaflidiokhaljaaDoor
open Go.RowKit
set_option linter.unusedVariables false

def ugL : List UInt8 → Bool → Option (List UInt8)
  | [], m => if m then none else some []
  | c :: r, m => if c = 95 then (if m then none else ugL r true) else (ugL r false).map (c :: ·)
theorem enc_one {c : UInt8} (h : c.toNat < 128) : Lib.encodeRune ((c.toNat : Nat) : Int) = [c] := by
  rw [Lib.encodeRune, Lib.encodeRuneZ_one (by omega) (by omega)]
  simp
theorem ug_ascii {L : List UInt8} (hA : ∀ c ∈ L, c.toNat < 128) : ∀ (f pos : Nat) (m : Bool), L.length ≤ pos + f → ug ⟨L.toArray⟩ f pos m = ugL (L.drop pos) m
  | 0, pos, m, h => by
    rw [List.drop_eq_nil_of_le (by omega)]
    rfl
  | f + 1, pos, m, h => by
    by_cases hp : pos < L.length
    · have hp' : pos < (⟨L.toArray⟩ : ByteArray).size := by rw [mk_size]; exact hp
      have hc := hA _ (List.getElem_mem hp)
      have hd : Utf8.decode (⟨L.toArray⟩ : ByteArray) pos = (L[pos].toNat, 1) := decode_ascii _ pos hp' hc
      rw [ug, if_pos hp', hd, List.drop_eq_getElem_cons hp, ugL, ug_ascii hA f (pos + 1) true (by omega), ug_ascii hA f (pos + 1) false (by omega)]
      dsimp only
      rw [enc_one hc]
      have e : (L[pos].toNat = 95) ↔ (L[pos] = 95) := ⟨fun h => UInt8.toNat_inj.1 h, fun h => by rw [h]; rfl⟩
      simp only [e]
      rfl
    · rw [ug_end (by rw [mk_size]; exact hp), List.drop_eq_nil_of_le (by omega)]
      rfl
theorem ugL_grp : ∀ (l : List UInt8) (f m : Bool), (∀ c ∈ l, c ≠ 95) → (l ≠ [] ∨ m = false) → (f = true ∨ m = false) → ugL (grpF f l) m = some l
  | [], f, m, _, h, _ => by
    rcases h with h | h
    · exact absurd rfl h
    · subst h; rw [grp_nil]; rfl
  | c :: r, f, m, hA, _, h => by
    have ih := ugL_grp r false false (fun c h => hA c (List.mem_cons_of_mem _ h)) (.inr rfl) (.inr rfl)
    have hc : c ≠ 95 := hA c (by simp)
    unfold grpF
    split
    · rename_i hq
      obtain rfl : m = false := by rcases h with h | h <;> simp_all
      show ugL (95 :: c :: grpF false r) false = _
      rw [ugL, if_pos rfl, if_neg (by simp), ugL, if_neg hc, ih]
      rfl
    · show ugL (c :: grpF false r) m = _
      rw [ugL, if_neg hc, ih]
      rfl
theorem grp_len : ∀ (f : Bool) (l : List UInt8), (grpF f l).length ≤ 2 * l.length
  | f, [] => by rw [grp_nil]; simp
  | f, c :: r => by
    have := grp_len false r
    unfold grpF
    split <;> simp <;> omega
theorem grp_mem : ∀ (f : Bool) (l : List UInt8) (c : UInt8), c ∈ grpF f l → c = 95 ∨ c ∈ l
  | f, [], c, h => by rw [grp_nil] at h; exact absurd h (by simp)
  | f, d :: r, c, h => by
    unfold grpF at h
    rcases List.mem_append.1 h with h | h
    · split at h
      · simp at h; rcases h with h | h
        · exact .inl h
        · exact .inr (by simp [h])
      · simp at h; exact .inr (by simp [h])
    · rcases grp_mem false r c h with h | h
      · exact .inl h
      · exact .inr (List.mem_cons_of_mem _ h)
theorem ug_back {l : List UInt8} (hl : l ≠ []) (hg : Good 10 l) : ug ⟨(grpF true l).toArray⟩ (⟨(grpF true l).toArray⟩ : ByteArray).size 0 true = some l := by
  rw [ug_ascii (fun c hc => ?_) _ 0 true (by rw [mk_size]; omega), List.drop_zero]
  · exact ugL_grp l true true (fun c h => (good_ten hg h).2) (.inl hl) (.inl rfl)
  · rcases grp_mem true l c hc with rfl | h
    · decide
    · exact (good_ten hg h).1
theorem readDec_back {w : World} {n : Nat} (hT : Sg w) (hl : (txtL 10 n).length ≤ 67108865) : Calls Tryd.prog 22 #[.string (txt 10 n)] w (ReadTo w 0 n) :=
  (readDec_any (l := txtL 10 n) hT (by omega)).mono fun e w' hp => by
    have hb := txt_back (B := 10) (n := n) (by omega) (by omega)
    rcases hp with ⟨_, zs, a, c, h1, h2, h3, h4, h5⟩ | ⟨q, _⟩
    · exact ⟨zs, a, c, h1, h2, h3, h4.trans hb.2, h5⟩
    · exact absurd hb.1 q
theorem read_back {w : World} {B n : Nat} (hB : 2 ≤ B) (hB2 : B ≤ 36) (hT : Sg w) (hl : (txtL B n).length ≤ 67108865) : Calls Tryd.prog 19 #[.string (txt B n), .int .i64 (B : Int)] w (ReadTo w 0 n) := by
  have hb := txt_back (B := B) (n := n) hB hB2
  have h := read_good (l := txtL B n) hB hB2 hT (by omega) hb.1
  rw [hb.2] at h
  exact h
theorem readGrouped_back {w : World} {n : Nat} (hT : Sg w) (hl : (txtL 10 n).length ≤ 67108865) : Calls Tryd.prog 24 #[.string ⟨(grpF true (txtL 10 n)).toArray⟩] w (ReadTo w 0 n) :=
  (readGrouped_any (by rw [mk_size]; have := grp_len true (txtL 10 n); omega) hT).mono fun e w' hp => by
    have hb := txt_back (B := 10) (n := n) (by omega) (by omega)
    have hu := ug_back hb.1.1 hb.1.2
    rcases hp with ⟨l, hl', hr⟩ | ⟨q, _⟩
    · obtain rfl : txtL 10 n = l := Option.some.inj (hu.symm.trans hl')
      rcases hr with ⟨_, zs, a, c, h1, h2, h3, h4, h5⟩ | ⟨q, _⟩
      · exact ⟨zs, a, c, h1, h2, h3, h4.trans hb.2, h5⟩
      · exact absurd hb.1 q
    · rw [hu] at q; cases q
end Go.Proofs.YtaflidiokhaljaaDoor
