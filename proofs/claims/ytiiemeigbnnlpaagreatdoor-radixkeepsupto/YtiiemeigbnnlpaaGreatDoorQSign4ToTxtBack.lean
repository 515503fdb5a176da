/-
  QSign4ToTxtBack: Sign4, StepPure, TxtBack, joined.
-/
import Derived.Test.YtiiemeigbnnlpaaGreatDoorQReadToRGroup4
import Derived.Test.YtiiemeigbnnlpaaGreatDoorQTextToBuild4

/- Sign4 -/
namespace Go.Proofs.YtiiemeigbnnlpaaGreatDoor
open Go.RowKit
set_option linter.unusedVariables false

/-- The value that the law's sign answers. -/
def sgv (c : Nat) : Int := if 48 ≤ c ∧ c ≤ 57 then (c : Int) - 48 else if 97 ≤ c ∧ c ≤ 122 then (c : Int) - 87 else if 65 ≤ c ∧ c ≤ 90 then (c : Int) - 55 else -1
theorem sgv_ok {c B : Nat} (hB : B ≤ 36) : (0 ≤ sgv c ∧ sgv c < (B : Int)) ↔ dv c < B := by
  unfold sgv dv
  (repeat' split) <;> omega
theorem sgv_dv {c : Nat} (h : dv c < 36) : sgv c = (dv c : Int) := by
  unfold dv at h ⊢
  unfold sgv
  (repeat' split at h) <;> (repeat' split) <;> omega
theorem txt_ff : txt 16 255 = ⟨#[102, 102]⟩ := by
  have e : lead (digF 16 255 255) = [15, 15] := by
    rw [leadD_any (k := 2) (lt_pow_self (by omega) 255) (by decide)]
    decide
  unfold txt txtL
  rw [if_neg (by decide), e]
  rfl
set_option maxRecDepth 100000 in
theorem awake4_any {w : World} (hT : Sg w) : Calls Tryz.prog 4 #[] w fun e w' => e = .returned (.bool true) ∧ Below w.heap.size w w' := by
  have k := (Below.refl w.heap.size w).alloc (Nat.le_refl _) (.cells #[.int .u64 255] 38)
  have hs := lit_one w 255 (by unfold IsW wB; omega)
  have HT := hid (text_any (B := 16) hs (by simp) (by omega) (by omega) (hT.now k))
  have e1 : vn [255] = 255 := by simp [vn]
  rw [e1, txt_ff] at HT
  have K := hid k
  clear k hs hT e1
  go_enter Tryz.func4, Tryz.ntmps4
  go_wp2_with fail
  refine HT.out.mono ?_
  rintro e w1 ⟨rfl, k1⟩
  have K1 := hid (below_step K.out k1)
  clear k1 HT K
  go_wp2
  go_ret
  exact ⟨rfl, K1.out⟩
theorem digits_any {w : World} {va : Value} {xs : List Int} (ha : Sl w.heap.size w va xs) (lx : xs.length ≤ 1048576) (hT : Sg w) :
    Calls Tryz.prog 26 #[va] w fun e w' => e = .returned (.int .i64 ((txtL 10 (vn xs)).length : Int)) ∧ Below w.heap.size w w' := by
  have HT := hid (dec_any ha lx hT)
  obtain ⟨a, c, rfl⟩ : ∃ a c, va = .slice a xs.length c := by obtain ⟨_, a, c, e, _⟩ := ha; exact ⟨a, c, e⟩
  have hsz : (txt 10 (vn xs)).size = (txtL 10 (vn xs)).length := mk_size _
  clear ha hT
  generalize txt 10 (vn xs) = t at *
  generalize (txtL 10 (vn xs)).length = n at *
  go_enter Tryz.func26, Tryz.ntmps26
  go_wp2_with fail
  refine HT.out.mono ?_
  rintro e w1 ⟨rfl, k1⟩
  have K1 := hid k1
  clear k1 HT
  go_wp2
  go_ret
  exact ⟨rfl, K1.out⟩
end Go.Proofs.YtiiemeigbnnlpaaGreatDoor

/- StepPure -/
namespace Go.Proofs.YtiiemeigbnnlpaaGreatDoor
open Go.RowKit
set_option linter.unusedVariables false

theorem conv_one (w : World) (c : UInt8) : (convert 51 9 (.slice (some ⟨w.heap.size, 0, none⟩) 1 1)).run Tryz.prog (w.alloc (.cells #[.int .u8 (c.toNat : Int)] 5)) = .ok (.string ⟨#[c]⟩) (w.alloc (.cells #[.int .u8 (c.toNat : Int)] 5)) := by
  have h := run_convert_bytes_arg (P := Tryz.prog) (w.alloc (.cells #[.int .u8 (c.toNat : Int)] 5)) 51 5 Tryz.underlying51 Tryz.underlying5 w.heap.size 0 1 1 [(c.toNat : Int)] rfl (fun i hi => by
    obtain rfl : i = 0 := by omega
    have := heap_alloc_new w (.cells #[.int .u8 (c.toNat : Int)] 5)
    simp only [World.cell?, this]
    rfl) 9 Tryz.underlying9
  rw [h]
  have e : strOfNums [(c.toNat : Int)] = ⟨#[c]⟩ := by
    unfold strOfNums
    simp
  rw [e]
theorem str_snoc (l : List UInt8) (c : UInt8) : (⟨l.toArray⟩ : ByteArray) ++ ⟨#[c]⟩ = ⟨(l ++ [c]).toArray⟩ := by
  apply ByteArray.ext
  simp
/-- What Read answers, in one form. -/
def ReadTo (w : World) (E : Int) (V : Nat) (e : Ending) (w' : World) : Prop := ∃ zs a c, e = .returned (.tuple #[.slice a zs.length c, .int .i64 E]) ∧ Mine 0 w' (.slice a zs.length c) zs ∧ Canon zs ∧ vn zs = V ∧ Below w.heap.size w w'
theorem read_good {w : World} {B : Nat} {l : List UInt8} (hB : 2 ≤ B) (hB2 : B ≤ 36) (hT : Sg w) (hl : l.length ≤ 1000000000) (h : l ≠ [] ∧ Good B l) : Calls Tryz.prog 18 #[.string ⟨l.toArray⟩, .int .i64 (B : Int)] w (ReadTo w 0 (ofD B (dsL l))) :=
  (read_any hB hB2 hT hl).mono fun e w' hp => by
    rcases hp with ⟨_, zs, a, c, h1, h2, h3, h4, h5⟩ | ⟨q, _⟩
    · exact ⟨zs, a, c, h1, h2.mono (Nat.zero_le _), h3, h4, h5⟩
    · exact absurd h q
theorem read_none {w : World} {B : Nat} {l : List UInt8} (hB : 2 ≤ B) (hB2 : B ≤ 36) (hT : Sg w) (hl : l.length ≤ 1000000000) (h : ¬ (l ≠ [] ∧ Good B l)) : Calls Tryz.prog 18 #[.string ⟨l.toArray⟩, .int .i64 (B : Int)] w (ReadTo w 7 0) :=
  (read_any hB hB2 hT hl).mono fun e w' hp => by
    rcases hp with ⟨q, _⟩ | ⟨_, h1, h2⟩
    · exact absurd q h
    · exact ⟨[], none, 0, h1, Mine.nil _ _, canon_nil, rfl, h2⟩
theorem good_snoc {B : Nat} {l : List UInt8} {c : UInt8} : Good B (l ++ [c]) ↔ Good B l ∧ dv c.toNat < B := by
  unfold Good
  constructor
  · intro h
    exact ⟨fun b hb => h b (by simp [hb]), h c (by simp)⟩
  · rintro ⟨h1, h2⟩ b hb
    rcases List.mem_append.1 hb with q | q
    · exact h1 b q
    · have : b = c := by simpa using q
      rw [this]; exact h2
theorem ofD_next {B : Nat} {l : List UInt8} {c : UInt8} : ofD B (dsL (l ++ [c])) = ofD B (dsL l) * B + dv c.toNat := by
  unfold dsL
  rw [List.map_append, List.map_cons, List.map_nil, ofD_snoc]
theorem canon_lt {zs : List Int} (hz : Canon zs) {B n : Nat} (hB : B ≤ 36) (h : vn zs < B ^ n) (hn : n ≤ 1048577) : zs.length ≤ 1048576 := by
  obtain ⟨m, hm⟩ : ∃ m, m = 1048576 := ⟨_, rfl⟩
  rw [← hm]
  refine canon_len hz ?_
  rw [val_vn hz.1, pw_pow]
  have h1 : B ^ n ≤ (2 ^ 6) ^ n := Nat.pow_le_pow_left (by omega) n
  rw [← Nat.pow_mul] at h1
  have h2 : 2 ^ (6 * n) ≤ 2 ^ (64 * m) := Nat.pow_le_pow_right (by omega) (by omega)
  have h3 : vn zs < 2 ^ (64 * m) := Nat.lt_of_lt_of_le (Nat.lt_of_lt_of_le h h1) h2
  have h4 : ((2 : Int) ^ (64 * m)) = ((2 ^ (64 * m) : Nat) : Int) := by simp
  rw [h4]
  exact Int.ofNat_lt.2 h3
/-- How many digits a number one digit longer has. -/
theorem txtL_next {B n d : Nat} (hB : 2 ≤ B) (hd : d < B) (hn : n ≠ 0) : (txtL B (n * B + d)).length = (txtL B n).length + 1 := by
  have hpos : n * B + d ≠ 0 := by
    have : 1 * B ≤ n * B := Nat.mul_le_mul_right _ (by omega)
    omega
  unfold txtL
  rw [if_neg hpos, if_neg hn, List.length_map, List.length_map]
  have h1 : n * B + d < B ^ (n + 1) := by
    have h2 := lt_pow_self hB n
    have h3 : (n + 1) * B ≤ B ^ n * B := Nat.mul_le_mul_right _ h2
    rw [Nat.add_mul, Nat.one_mul, ← Nat.pow_succ] at h3
    exact Nat.lt_of_lt_of_le (by omega) h3
  rw [leadD_any (lt_pow_self hB (n * B + d)) h1]
  have e : digF B (n + 1) (n * B + d) = digF B n n ++ [d] := by
    rw [digF]
    have e1 : (n * B + d) / B = n := by rw [Nat.mul_comm, Nat.mul_add_div (by omega), Nat.div_eq_of_lt hd, Nat.add_zero]
    have e2 : (n * B + d) % B = d := by rw [Nat.mul_comm, Nat.mul_add_mod, Nat.mod_eq_of_lt hd]
    rw [e1, e2]
  rw [e]
  have hl : lead (digF B n n) ≠ [] := fun q => hn (lead_nil q (lt_pow_self hB n))
  have hla : lead (digF B n n ++ [d]) = lead (digF B n n) ++ [d] := by
    unfold lead at hl ⊢
    rw [List.dropWhile_append, if_neg (by simpa using hl)]
  rw [hla, List.length_append, List.length_singleton]
theorem txtL_zero {B d : Nat} (hB : 2 ≤ B) (hd : d < B) : (txtL B d).length = 1 := by
  by_cases h : d = 0
  · subst h; rfl
  · unfold txtL
    rw [if_neg h, List.length_map]
    have h1 : d < B ^ 1 := by simpa using hd
    rw [leadD_any (lt_pow_self hB d) h1]
    have e : digF B 1 d = [d] := by simp [digF, Nat.mod_eq_of_lt hd]
    rw [e]
    unfold lead
    rw [List.dropWhile_cons]
    simp [h]
end Go.Proofs.YtiiemeigbnnlpaaGreatDoor

/- TxtBack -/
namespace Go.Proofs.YtiiemeigbnnlpaaGreatDoor
open Go.RowKit
set_option linter.unusedVariables false

theorem dv_sgn {d : Nat} (h : d < 36) : dv (sgnB d).toNat = d := by
  rw [sgnB_nat h]
  unfold sgn dv
  (repeat' split) <;> omega
theorem mem_lead {ds : List Nat} {d : Nat} (h : d ∈ lead ds) : d ∈ ds := (List.dropWhile_suffix _).subset h
theorem txt_ds {B n : Nat} (hB : 2 ≤ B) (hB2 : B ≤ 36) (hn : n ≠ 0) : dsL (txtL B n) = lead (digF B n n) := by
  unfold txtL dsL
  rw [if_neg hn, List.map_map]
  conv => rhs; rw [← List.map_id (lead (digF B n n))]
  apply List.map_congr_left
  intro d hd
  exact dv_sgn (by have := digF_lt (show 0 < B by omega) n n d (mem_lead hd); omega)
theorem txt_back {B n : Nat} (hB : 2 ≤ B) (hB2 : B ≤ 36) : (txtL B n ≠ [] ∧ Good B (txtL B n)) ∧ ofD B (dsL (txtL B n)) = n := by
  by_cases hn : n = 0
  · subst hn
    have e : txtL B 0 = [48] := by unfold txtL; rw [if_pos rfl]
    rw [e]
    refine ⟨⟨by simp, fun b hb => ?_⟩, by rw [show dsL [48] = [0] from rfl, ofD_one]⟩
    rw [List.mem_singleton.1 hb]
    exact Nat.lt_of_lt_of_le (by decide : dv (48 : UInt8).toNat < 2) hB
  · refine ⟨⟨txtL_ne hB hn, fun b hb => ?_⟩, ?_⟩
    · have h1 : dv b.toNat ∈ dsL (txtL B n) := List.mem_map.2 ⟨b, hb, rfl⟩
      rw [txt_ds hB hB2 hn] at h1
      exact digF_lt (by omega) n n _ (mem_lead h1)
    · rw [txt_ds hB hB2 hn, ofD_lead, ofD_digF, Nat.mod_eq_of_lt (lt_pow_self hB n)]
theorem good_ten {l : List UInt8} (h : Good 10 l) {c : UInt8} (hc : c ∈ l) : c.toNat < 128 ∧ c ≠ 95 := by
  have h1 := h c hc
  have h2 : 48 ≤ c.toNat ∧ c.toNat ≤ 57 := by
    unfold dv at h1
    (repeat' split at h1) <;> omega
  exact ⟨by omega, fun e => by rw [e] at h2; exact absurd h2.2 (by decide)⟩
end Go.Proofs.YtiiemeigbnnlpaaGreatDoor
