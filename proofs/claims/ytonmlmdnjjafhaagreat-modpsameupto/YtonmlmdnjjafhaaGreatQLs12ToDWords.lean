/-
  QLs12ToDWords: Ls12, ZDivs, DWords, joined.
-/
import Derived.Test.YtonmlmdnjjafhaaGreatQRf12
import Derived.Test.YtonmlmdnjjafhaaGreatQZModToZSmall
import Derived.Test.YtonmlmdnjjafhaaGreatQExact0ToZlaw0
import Derived.Test.YtonmlmdnjjafhaaGreatQWordsToBase

/- Ls12 -/
namespace Go.Proofs.YtonmlmdnjjafhaaGreat
open Go.RowKit
set_option linter.unusedVariables false

theorem mc_zero (w : World) : Mc w mzero 0 0 [] 1 := ⟨_, [], rfl, Prs.nil _ _, ⟨rfl, fun j p z hp => by simp at hp⟩, rfl, by omega, by omega⟩
set_option maxHeartbeats 1600000 in
set_option maxRecDepth 100000 in
theorem same12 {w : World} {E : Int} : Calls Tryz.prog 33 #[ansV E, ansV E] w fun e w' => e = .returned (.bool true) ∧ Below w.heap.size w w' := by
  obtain ⟨W0, hW⟩ : ∃ W0, (w.alloc (ansO E)).alloc (ansO E) = W0 := ⟨_, rfl⟩
  have b0 : Below w.heap.size w W0 := by rw [← hW]; exact ((Below.refl _ _).alloc (Nat.le_refl _) _).alloc (by simp) _
  have PA : Hid (Cel W0 w.heap.size 58 (ansC E)) := by unfold Hid; rw [← hW]; exact (Cel.new w _ _).step (alo12 _ _).1
  have PB : Hid (Cel W0 (w.heap.size + 1) 58 (ansC E)) := by
    unfold Hid; rw [← hW]
    have := Cel.new (w.alloc (ansO E)) 58 (ansC E)
    simpa using this
  have HM := hid (alikeMats12_yes (mc_zero W0) (mc_zero W0) rfl)
  have x0 := PA.out.at (i := 0) rfl
  have x1 := PA.out.at (i := 1) rfl
  have x2 := PA.out.at (i := 2) rfl
  have y0 := PB.out.at (i := 0) rfl
  have y1 := PB.out.at (i := 1) rfl
  have y2 := PB.out.at (i := 2) rfl
  rw [← hW] at x0 x1 x2 y0 y1 y2
  have G0 := hid b0
  have EW := hid hW
  clear b0 hW
  go_enter Tryz.func33, Tryz.ntmps33
  go_wp2_with fail
  rw [EW.out]
  refine HM.out.mono ?_
  rintro e w1 ⟨rfl, b1⟩
  have PA1 := hid (PA.out.step b1)
  have PB1 := hid (PB.out.step b1)
  have G1 := hid (below_step G0.out b1)
  have HR := hid (alikeRows12_yes (w := w1) (k := 1) (l := 1) (zs := []) (Prs.nil 0 w1) ⟨rfl, fun j p z hp => by simp at hp⟩ (Prs.nil 0 w1) ⟨rfl, fun j p z hp => by simp at hp⟩)
  have x3 := PA1.out.at (i := 3) rfl
  have y3 := PB1.out.at (i := 3) rfl
  clear HM b1 x0 x1 x2 y0 y1 y2 EW G0 PA PB
  go_wp2_with fail
  refine HR.out.mono ?_
  rintro e w2 ⟨rfl, b2⟩
  have PA2 := hid (PA1.out.step b2)
  have PB2 := hid (PB1.out.step b2)
  have G2 := hid (below_step G1.out b2)
  have x4 := PA2.out.at (i := 4) rfl
  have x5 := PA2.out.at (i := 5) rfl
  have x6 := PA2.out.at (i := 6) rfl
  have x7 := PA2.out.at (i := 7) rfl
  have y4 := PB2.out.at (i := 4) rfl
  have y5 := PB2.out.at (i := 5) rfl
  have y6 := PB2.out.at (i := 6) rfl
  have y7 := PB2.out.at (i := 7) rfl
  have q1 : ((0 : Int) == 0) = true := rfl
  have q2 : (false == false) = true := rfl
  have q3 : (E == E) = true := by simp
  clear HR b2 x3 y3 PA1 PB1 G1 PA2 PB2
  go_wp2
  go_ret
  exact ⟨rfl, G2.out⟩
def LsH (w : World) (n gk : Nat) (s : Value) (wx : World) : Prop := ∃ i : Nat, s = .int .i64 (i : Int) ∧ i ≤ n ∧ gk = n - i ∧ wx = w
/-- A residue in least form: no word, or one. -/
theorem least_form {w : World} {v : Value} {z : Int} {k p : Nat} (h : Zc w v z k) (hz : IsR p z) (hp : p < 2147483648) : ∃ a c, (z = 0 ∧ v = .agg #[.bool false, .slice a 0 c]) ∨ (0 < z ∧ v = .agg #[.bool false, .slice a 1 c] ∧ ∃ b off, a = some ⟨b, off, none⟩ ∧ w.cell? ⟨b, off, none⟩ = some (.int .u64 z)) := by
  obtain ⟨n, xs, a, c, rfl, hs, hc, hn, hv, -⟩ := h
  unfold IsR at hz
  have hvn := val_nonneg hs.1
  refine ⟨a, c, ?_⟩
  by_cases h0 : z = 0
  · left
    have h1 : val xs = 0 := by
      cases n
      · rw [iv_pos] at hv; omega
      · rw [iv_neg] at hv; omega
    have e := canon_zero hc h1
    subst e
    rw [hn rfl]
    exact ⟨h0, rfl⟩
  · right
    have hn0 : n = false := by
      cases n
      · rfl
      · rw [iv_neg] at hv; omega
    subst hn0
    rw [iv_pos] at hv
    have hone : xs = [z] := canon_inj hc (show Canon [z] from ⟨by intro x hx; simp at hx; subst hx; unfold IsW wB; omega, by simp [wid]; omega⟩) (by rw [hv]; simp [val])
    subst hone
    refine ⟨by omega, rfl, ?_⟩
    obtain ⟨-, a', cap, e1, -, -, e5⟩ := hs
    simp only [Value.slice.injEq] at e1
    obtain ⟨rfl, -, -⟩ := e1
    rcases e5 with e5 | ⟨b, off, e6, -, e8⟩
    · cases e5
    · exact ⟨b, off, e6, by simpa using e8 0 (by simp)⟩
set_option maxHeartbeats 1600000 in
set_option maxRecDepth 100000 in
theorem least12_yes {w : World} {B : Nat} {v : Value} {ps : List (Value × Value)} {zs : List Int} {k p : Nat} (ha : Prs B w v ps) (hza : Zcs w ps zs k) (hr : Res p zs) (hp : p < 2147483648) :
    Calls Tryz.prog 13 #[v, .int .u64 (p : Int)] w fun e w' => e = .returned (.bool true) ∧ w' = w := by
  have A0 := hid ha
  have ZA := hid hza
  have HR := hid hr
  obtain ⟨aa, ca, rfl, hca, hna, -, hfa⟩ := ha.form
  obtain ⟨n, hn⟩ : ∃ n, zs.length = n := ⟨_, rfl⟩
  rw [hza.1, hn] at A0 hca hna ⊢
  have FA : Hid (n ≠ 0 → ∃ b off, aa = some ⟨b, off, none⟩) := fun h => by
    obtain ⟨b, off, e, -⟩ := hfa (fun e => h (by rw [← hn, ← hza.1, e]; rfl))
    exact ⟨b, off, e⟩
  have HN := hid hn
  clear ha hza hr hfa hn
  go_enter Tryz.func13, Tryz.ntmps13
  go_wp2_with fail
  go_loop [5] (fun s => ∃ i : Nat, s = .int .i64 (i : Int) ∧ i ≤ n) (fun s => n - (intOf s).toNat)
  case atStart => exact ⟨0, rfl, Nat.zero_le _⟩
  case round =>
    obtain ⟨i, rfl, hi⟩ := hrel
    by_cases hlt : i < n
    · have hlt' : (i : Int) < (n : Int) := by omega
      obtain ⟨b1, o1, rfl⟩ := FA.out (by omega)
      have hix : i < zs.length := by rw [HN.out]; exact hlt
      obtain ⟨nf, xf, adf, qf, k0, k1, zf⟩ := Zcs.at9 A0.out ZA.out hix
      have rz := HR.out.at hix
      obtain ⟨a5, c5, h5⟩ := least_form zf rz hp
      obtain ⟨z, hz⟩ : ∃ z, zs[i] = z := ⟨_, rfl⟩
      rw [hz] at h5 rz
      have hw := wrapJ hlt hna
      clear zf hz hix
      rcases h5 with ⟨h0, e5⟩ | ⟨h0, e5, b, off, rfl, cz⟩
      · simp only [Value.agg.injEq, Array.mk.injEq, List.cons.injEq, and_true, Value.bool.injEq, Value.slice.injEq] at e5
        obtain ⟨rfl, rfl, e6, rfl⟩ := e5
        rw [e6] at k1
        have q1 : ¬ (1 : Int) < ((0 : Nat) : Int) := by omega
        have q2 : (((0 : Nat) : Int) == 1) = false := rfl
        clear h0 e6 rz
        go_wp2_with fail
        go_round
        case rel => exact ⟨i + 1, rfl, by omega⟩
        case measure => simp [intOf]; omega
      · simp only [Value.agg.injEq, Array.mk.injEq, List.cons.injEq, and_true, Value.bool.injEq, Value.slice.injEq] at e5
        obtain ⟨rfl, rfl, e6, rfl⟩ := e5
        rw [e6] at k1
        have q1 : ¬ (1 : Int) < ((1 : Nat) : Int) := by omega
        have q2 : (((1 : Nat) : Int) == 1) = true := rfl
        have q3 : (z == 0) = false := by simp; omega
        have q4 : decide ((p : Int) ≤ z) = false := decide_eq_false (by unfold IsR at rz; omega)
        clear h0 e6 rz
        go_wp2_with fail
        go_round
        case rel => exact ⟨i + 1, rfl, by omega⟩
        case measure => simp [intOf]; omega
    · have hlt' : ¬ (i : Int) < (n : Int) := by omega
      go_wp2
      go_ret
      exact ⟨rfl, rfl⟩
end Go.Proofs.YtonmlmdnjjafhaaGreat

/- ZDivs -/
namespace Go.Proofs.YtonmlmdnjjafhaaGreat
open Go.RowKit
set_option linter.unusedVariables false

theorem alloc1 (w : World) (o1 : Obj) : Below w.heap.size w (w.alloc o1) ∧ (w.alloc o1).heap.size = w.heap.size + 1 := ⟨(Below.refl _ _).alloc (Nat.le_refl _) _, by simp⟩
def fdv (z y : Int) : Int := if cmpI (z.tmod y) 0 * cmpI y 0 < 0 then z.tdiv y - 1 else z.tdiv y
def fmd (z y : Int) : Int := if cmpI (z.tmod y) 0 * cmpI y 0 < 0 then z.tmod y + y else z.tmod y
def edv (z y : Int) : Int := if cmpI (z.tmod y) 0 < 0 then z.tdiv y - cmpI y 0 else z.tdiv y
theorem euclid_z {w : World} {v u : Value} {z y : Int} {k l : Nat} (h0 : Zi w v z k) (h1 : Zi w u y l) (hy : y ≠ 0) (hk : k ≤ 1099511627776) (hl : l ≤ 1099511627776) :
    Calls Tryz.prog 98 #[v, u] w (GivesZ2 0 w (edv z y) (z % y) (max k 1 + 1) (max k l + 1)) := by
  unfold edv
  by_cases hs : z.tmod y < 0
  · have hc := cmpI_neg hs
    rw [if_pos hc, ← (euclid_bits hy).1 hs]
    exact euclid_neg h0 h1 hy hk hl hc
  · have hc := cmpI_nonneg (a := z.tmod y) (b := 0) (by omega)
    rw [if_neg hc, ← (euclid_bits hy).2 hs]
    exact (euclid_pos h0 h1 hy hk hl hc).mono fun e w' ⟨rq, rr, q1, q2, q3, q4⟩ => ⟨rq, rr, q1, q2.more (by omega), q3.more (by omega), q4⟩
theorem tmod_small {z y : Int} (hy : y ≠ 0) : ((z.tmod y).natAbs : Int) < (y.natAbs : Int) ∧ (0 ≤ z → 0 ≤ z.tmod y) ∧ (z ≤ 0 → z.tmod y ≤ 0) ∧ z.tdiv y * y + z.tmod y = z := by
  have h0 : z.tdiv y * y + z.tmod y = z := by rw [Int.mul_comm]; exact Int.mul_tdiv_add_tmod z y
  have h1 := Int.tmod_eq_emod (a := z) (b := y)
  have h2 := Int.emod_nonneg z hy
  have h3 : z % y < (y.natAbs : Int) := by
    by_cases h : 0 < y
    · have := Int.emod_lt_of_pos z h
      omega
    · have := Int.emod_lt_of_pos z (b := -y) (by omega)
      rw [Int.emod_neg] at this
      omega
  have h4 : 0 ≤ z → 0 ≤ z.tmod y := fun h => by
    rw [if_pos (.inl h)] at h1
    omega
  have h5 : z ≤ 0 → z.tmod y ≤ 0 := fun h => by
    have h6 := Int.tmod_eq_emod (a := -z) (b := y)
    rw [if_pos (.inl (by omega)), Int.neg_tmod] at h6
    have h7 := Int.emod_nonneg (-z) hy
    omega
  refine ⟨?_, h4, h5, h0⟩
  by_cases h : 0 ≤ z
  · rw [if_pos (.inl h)] at h1
    omega
  · have h6 := Int.tmod_eq_emod (a := -z) (b := y)
    rw [if_pos (.inl (by omega)), Int.neg_tmod] at h6
    have h7 := Int.emod_nonneg (-z) hy
    have h8 : (-z) % y < (y.natAbs : Int) := by
      by_cases h : 0 < y
      · have := Int.emod_lt_of_pos (-z) h
        omega
      · have := Int.emod_lt_of_pos (-z) (b := -y) (by omega)
        rw [Int.emod_neg] at this
        omega
    omega
/-- All that the law asks of the three divisions. -/
structure Divs (A B : Int) : Prop where
  t1 : A.tdiv B * B + A.tmod B = A
  t2 : ((A.tmod B).natAbs : Int) < (B.natAbs : Int)
  t3 : ¬ cmpI (A.tmod B) 0 * cmpI A 0 < 0
  f1 : fdv A B * B + fmd A B = A
  f2 : ((fmd A B).natAbs : Int) < (B.natAbs : Int)
  f3 : ¬ cmpI (fmd A B) 0 * cmpI B 0 < 0
  e1 : edv A B * B + A % B = A
  e2 : 0 ≤ A % B ∧ A % B < (B.natAbs : Int)
  n1 : A.tmod B ≠ 0 → fmd A B ≠ 0 ∧ A % B ≠ 0
  n2 : A.tmod B = 0 → fdv A B = A.tdiv B ∧ edv A B = A.tdiv B
theorem sign_cases (x : Int) : (x < 0 ∧ cmpI x 0 = -1) ∨ (x = 0 ∧ cmpI x 0 = 0) ∨ (0 < x ∧ cmpI x 0 = 1) := cmp_cases x 0
theorem sgn_prod (R B : Int) : cmpI R 0 * cmpI B 0 < 0 ↔ ((R < 0 ∧ 0 < B) ∨ (0 < R ∧ B < 0)) := by
  rcases sign_cases R with ⟨r1, r2⟩ | ⟨r1, r2⟩ | ⟨r1, r2⟩ <;> rcases sign_cases B with ⟨b1, b2⟩ | ⟨b1, b2⟩ | ⟨b1, b2⟩ <;> rw [r2, b2] <;> omega
theorem sgn_abs (B : Int) : cmpI B 0 * B = (B.natAbs : Int) := by
  rcases sign_cases B with ⟨b1, b2⟩ | ⟨b1, b2⟩ | ⟨b1, b2⟩ <;> rw [b2] <;> omega
theorem sgn_neg (R : Int) : cmpI R 0 < 0 ↔ R < 0 := by
  rcases sign_cases R with ⟨r1, r2⟩ | ⟨r1, r2⟩ | ⟨r1, r2⟩ <;> rw [r2] <;> omega
theorem divs {A B : Int} (hB : B ≠ 0) : Divs A B := by
  obtain ⟨h1, h2, h3, h4⟩ := tmod_small (z := A) hB
  obtain ⟨h5, h5'⟩ := euclid_bits (z := A) hB
  have h6 := Int.emod_nonneg A hB
  have hs := sgn_abs B
  refine ⟨h4, h1, ?_, ?_, ?_, ?_, ?_, ⟨h6, ?_⟩, ?_, ?_⟩
  · rw [sgn_prod]; omega
  · unfold fdv fmd
    split
    · rw [Int.sub_mul]; omega
    · exact h4
  · unfold fmd
    split
    · rename_i h
      rw [sgn_prod] at h
      omega
    · exact h1
  · rw [sgn_prod]
    unfold fmd
    split <;> rename_i h <;> rw [sgn_prod] at h <;> omega
  · unfold edv
    split <;> rename_i h <;> rw [sgn_neg] at h
    · rw [Int.sub_mul, hs, ← h5 h]; omega
    · rw [← h5' h]; exact h4
  · by_cases h : A.tmod B < 0
    · rw [← h5 h]; omega
    · rw [← h5' h]; omega
  · intro hR
    refine ⟨?_, ?_⟩
    · unfold fmd
      split
      · omega
      · exact hR
    · by_cases h : A.tmod B < 0
      · rw [← h5 h]; omega
      · rw [← h5' h]; exact hR
  · intro hR
    refine ⟨?_, ?_⟩
    · unfold fdv
      rw [if_neg]
      rw [sgn_prod]; omega
    · unfold edv
      rw [if_neg]
      rw [sgn_neg]; omega

end Go.Proofs.YtonmlmdnjjafhaaGreat

/- DWords -/
namespace Go.Proofs.YtonmlmdnjjafhaaGreat

/-- 2^16. -/
def dwB : Int := 65536
/-- A word. -/
def IsD (x : Int) : Prop := 0 ≤ x ∧ x < dwB
/-- A list of words. -/
def DF (xs : List Int) : Prop := ∀ x ∈ xs, IsD x
/-- The number that a list of words is. -/
def dval : List Int → Int
  | [] => 0
  | x :: r => x + dwB * dval r
/-- How many words are left without zero words at the high end. -/
def dwid : List Int → Nat
  | [] => 0
  | x :: r => if dwid r = 0 then (if x = 0 then 0 else 1) else dwid r + 1
/-- The place value of word i. -/
def dpw : Nat → Int
  | 0 => 1
  | n + 1 => dwB * dpw n
/-- In least form. -/
def DCanon (xs : List Int) : Prop := DF xs ∧ dwid xs = xs.length
theorem DF.nil : DF [] := fun x h => by cases h
theorem DF.cons {x : Int} {r : List Int} (hx : IsD x) (hr : DF r) : DF (x :: r) := by
  intro y hy; rcases List.mem_cons.1 hy with rfl | h
  · exact hx
  · exact hr y h
theorem DF.head {x : Int} {r : List Int} (h : DF (x :: r)) : IsD x := h x (by simp)
theorem DF.tail {x : Int} {r : List Int} (h : DF (x :: r)) : DF r := fun y hy => h y (by simp [hy])
theorem DF.take {xs : List Int} (h : DF xs) (n : Nat) : DF (xs.take n) := fun x hx => h x (List.mem_of_mem_take hx)
theorem DF.append {xs ys : List Int} (h : DF xs) (k : DF ys) : DF (xs ++ ys) := by
  intro x hx; rcases List.mem_append.1 hx with q | q
  · exact h x q
  · exact k x q
theorem DF.get {xs : List Int} (h : DF xs) {i : Nat} (hi : i < xs.length) : IsD xs[i] := h _ (List.getElem_mem hi)
theorem DF.set {xs : List Int} (h : DF xs) (i : Nat) {x : Int} (hx : IsD x) : DF (xs.set i x) := by
  intro y hy
  rcases List.mem_or_eq_of_mem_set hy with q | rfl
  · exact h y q
  · exact hx

theorem dval_nonneg : ∀ {xs : List Int}, DF xs → 0 ≤ dval xs
  | [], _ => by simp [dval]
  | x :: r, h => by
    have h1 := h.head; have h2 := dval_nonneg h.tail
    unfold IsD dwB at h1; unfold dval dwB; omega
theorem dwid_le : ∀ xs : List Int, dwid xs ≤ xs.length
  | [] => by simp [dwid]
  | x :: r => by
    have := dwid_le r
    unfold dwid; split
    · split <;> simp
    · simp; omega
theorem dwid_zero_val : ∀ xs : List Int, dwid xs = 0 → dval xs = 0
  | [], _ => rfl
  | x :: r, h => by
    unfold dwid at h
    split at h
    · rename_i h0
      have := dwid_zero_val r h0
      split at h
      · rename_i hx; simp [dval, hx, this]
      · cases h
    · cases h
theorem dwid_pos_val : ∀ {xs : List Int}, DF xs → 0 < dwid xs → 0 < dval xs
  | [], _, h => by simp [dwid] at h
  | x :: r, hw, h => by
    have h1 := hw.head; have h2 := dval_nonneg hw.tail
    unfold dwid at h
    unfold IsD dwB at h1
    split at h
    · split at h
      · cases h
      · unfold dval dwB; omega
    · have := dwid_pos_val hw.tail (by omega)
      unfold dval dwB; omega
theorem dval_wid_lt : ∀ {xs ys : List Int}, DF xs → DF ys → dwid xs < dwid ys → dval xs < dval ys
  | [], ys, _, hy, h => by
    have := dwid_pos_val hy (by simp [dwid] at h; exact h)
    simpa [dval] using this
  | x :: xs, [], _, _, h => by simp [dwid] at h
  | x :: xs, y :: ys, hx, hy, h => by
    have hx1 := hx.head; have hy1 := hy.head
    have vy := dval_nonneg hy.tail
    by_cases e : dwid ys = 0
    · have : dwid (y :: ys) ≤ 1 := by unfold dwid; rw [if_pos e]; split <;> simp
      have h0 : dwid (x :: xs) = 0 := by omega
      rw [dwid_zero_val _ h0]
      exact dwid_pos_val hy (by omega)
    · have e1 : dwid (y :: ys) = dwid ys + 1 := by rw [dwid, if_neg e]
      have e2 : dwid xs < dwid ys := by
        by_cases q : dwid xs = 0
        · omega
        · have : dwid (x :: xs) = dwid xs + 1 := by rw [dwid, if_neg q]
          omega
      have := dval_wid_lt hx.tail hy.tail e2
      unfold IsD dwB at hx1 hy1
      unfold dval dwB; omega
theorem dcanon_tail {x : Int} {r : List Int} (h : DCanon (x :: r)) : DCanon r := by
  refine ⟨h.1.tail, ?_⟩
  have h2 := h.2
  unfold dwid at h2
  split at h2
  · split at h2
    · simp at h2
    · simp only [List.length_cons] at h2; omega
  · simp only [List.length_cons] at h2; omega
theorem dcanon_zero : ∀ {ys : List Int}, DCanon ys → dval ys = 0 → ys = []
  | [], _, _ => rfl
  | y :: ys, hy, h => by
    exfalso
    have h2 := hy.2
    have := dwid_pos_val hy.1 (by rw [h2]; simp)
    omega
theorem dcanon_inj : ∀ {xs ys : List Int}, DCanon xs → DCanon ys → dval xs = dval ys → xs = ys
  | [], ys, _, hy, h => (dcanon_zero hy (by simpa [dval] using h.symm)).symm
  | x :: xs, [], hx, _, h => dcanon_zero hx (by simpa [dval] using h)
  | x :: xs, y :: ys, hx, hy, h => by
    have hx1 := hx.1.head; have hy1 := hy.1.head
    unfold IsD dwB at hx1 hy1
    unfold dval dwB at h
    have e1 : x = y := by omega
    have e2 : dval xs = dval ys := by omega
    rw [e1, dcanon_inj (dcanon_tail hx) (dcanon_tail hy) e2]
/-- What is left of a list without zero words at the high end. -/
def dlst (xs : List Int) : List Int := xs.take (dwid xs)
theorem dlength_lst (xs : List Int) : (dlst xs).length = dwid xs := by unfold dlst; have := dwid_le xs; simp; omega
theorem dlst_cons (x : Int) (r : List Int) : dlst (x :: r) = if dwid r = 0 then (if x = 0 then [] else [x]) else x :: dlst r := by
  have e : dwid (x :: r) = if dwid r = 0 then (if x = 0 then 0 else 1) else dwid r + 1 := by rw [dwid]
  unfold dlst
  rw [e]
  split
  · split <;> simp
  · simp
theorem dval_lst : ∀ xs : List Int, dval (dlst xs) = dval xs
  | [] => rfl
  | x :: r => by
    rw [dlst_cons]
    split
    · rename_i h0
      have := dwid_zero_val r h0
      split
      · rename_i hx; simp [dval, hx, this]
      · simp [dval, this]
    · simp [dval, dval_lst r]
theorem dwid_lst : ∀ xs : List Int, dwid (dlst xs) = dwid xs
  | [] => rfl
  | x :: r => by
    rw [dlst_cons, dwid]
    split
    · split
      · rfl
      · rename_i hx; simp [dwid, hx]
    · rename_i h0
      rw [dwid, dwid_lst r, if_neg h0]
theorem dcanon_lst {xs : List Int} (h : DF xs) : DCanon (dlst xs) := ⟨h.take _, by rw [dwid_lst, dlength_lst]⟩
/-- The width is found from the top: zeros above n, and the word below n not 0. -/
theorem dwid_is : ∀ {xs : List Int} {n : Nat}, n ≤ xs.length → (∀ j (h : j < xs.length), n ≤ j → xs[j] = 0) → (0 < n → ∀ h' : n - 1 < xs.length, xs[n - 1] ≠ 0) → dwid xs = n
  | [], n, hn, _, _ => by simp at hn; simp [dwid, hn]
  | x :: r, 0, _, hz, _ => by
    have h0 : dwid r = 0 := dwid_is (Nat.zero_le _) (fun j h _ => by have := hz (j + 1) (by simpa using h) (by omega); simpa using this) (fun h => by omega)
    have hx : x = 0 := hz 0 (by simp) (by omega)
    simp [dwid, h0, hx]
  | x :: r, 1, _, hz, ht => by
    have h0 : dwid r = 0 := dwid_is (Nat.zero_le _) (fun j h _ => by have := hz (j + 1) (by simpa using h) (by omega); simpa using this) (fun h => by omega)
    have hx : x ≠ 0 := by simpa using ht (by omega) (by simp)
    simp [dwid, h0, hx]
  | x :: r, n + 2, hn, hz, ht => by
    have h0 : dwid r = n + 1 := by
      refine dwid_is (by simpa using hn) (fun j h hj => ?_) (fun _ h' => ?_)
      · have := hz (j + 1) (by simpa using h) (by omega); simpa using this
      · have := ht (by omega) (by simpa using h'); simpa using this
    simp [dwid, h0]

theorem dval_lt_pw : ∀ {xs : List Int}, DF xs → dval xs < dpw xs.length
  | [], _ => by simp [dval, dpw]
  | x :: r, h => by
    have h1 := h.head; have h2 := dval_lt_pw h.tail
    unfold IsD dwB at h1
    simp only [List.length_cons]
    unfold dval dpw dwB; omega
theorem dpw_pos : ∀ n, 0 < dpw n
  | 0 => by simp [dpw]
  | n + 1 => by have := dpw_pos n; unfold dpw dwB; omega
theorem dval_append : ∀ (xs ys : List Int), dval (xs ++ ys) = dval xs + dpw xs.length * dval ys
  | [], ys => by simp [dval, dpw]
  | x :: r, ys => by
    simp only [List.cons_append, List.length_cons, dval, dpw, dval_append r ys]
    rw [Int.mul_add, Int.mul_assoc]; omega
theorem dval_set : ∀ (xs : List Int) (i : Nat) (z : Int) (h : i < xs.length), dval (xs.set i z) = dval xs + (z - xs[i]) * dpw i
  | [], i, z, h => by simp at h
  | x :: r, 0, z, _ => by simp [dval, dpw]; omega
  | x :: r, i + 1, z, h => by
    have := dval_set r i z (by simpa using h)
    simp only [List.set_cons_succ, List.getElem_cons_succ, dval, dpw, this]
    have h' : i < r.length := by simpa using h
    generalize hq : z - r[i]'h' = q
    rw [Int.mul_add, ← Int.mul_assoc, ← Int.mul_assoc, Int.mul_comm dwB q]; omega
theorem dval_take_succ (ys : List Int) (i : Nat) (h : i < ys.length) : dval (ys.take (i + 1)) = dval (ys.take i) + ys[i] * dpw i := by
  rw [List.take_succ_eq_append_getElem h, dval_append]
  simp [dval, Int.mul_comm, Nat.min_eq_left (Nat.le_of_lt h)]
/-- A list whose value reaches the place value of its top word is in least form. -/
theorem dcanon_of_ge {zs : List Int} (hw : DF zs) {xs : List Int} (hx : DCanon xs) (hl : zs.length = xs.length) (hv : dval xs ≤ dval zs) : DCanon zs := by
  refine ⟨hw, ?_⟩
  have h1 := dwid_le zs
  by_cases e : dwid zs = zs.length
  · exact e
  · exfalso
    have := dval_wid_lt hw hx.1 (by rw [hx.2]; omega)
    omega
theorem dcanon_snoc_one {zs : List Int} (hw : DF zs) : DCanon (zs ++ [1]) := by
  refine ⟨hw.append (by intro x hx; simp at hx; subst hx; unfold IsD dwB; omega), ?_⟩
  refine dwid_is (by simp) (fun j h hj => by omega) (fun h h' => ?_)
  simp
theorem dcmp_at : ∀ {xs ys : List Int} {j : Nat}, DF xs → DF ys → (hl : xs.length = ys.length) → (h : j < xs.length) → xs.drop (j + 1) = ys.drop (j + 1) → xs[j] ≠ ys[j]'(by omega) → cmpI (dval xs) (dval ys) = cmpI xs[j] (ys[j]'(by omega))
  | [], _, _, _, _, _, h, _, _ => by simp at h
  | x :: xs, [], _, _, _, hl, _, _, _ => by simp at hl
  | x :: xs, y :: ys, 0, hx, hy, _, _, hd, hne => by
    simp only [List.drop_succ_cons, List.drop_zero] at hd
    simp only [List.getElem_cons_zero] at hne ⊢
    have hx1 := hx.head; have hy1 := hy.head
    unfold IsD dwB at hx1 hy1
    subst hd
    simp only [cmpI, dval]
    have e1 : (x + dwB * dval xs < y + dwB * dval xs) ↔ x < y := by omega
    have e2 : (y + dwB * dval xs < x + dwB * dval xs) ↔ y < x := by omega
    simp only [e1, e2]
  | x :: xs, y :: ys, j + 1, hx, hy, hl, h, hd, hne => by
    simp only [List.drop_succ_cons] at hd
    simp only [List.getElem_cons_succ] at hne ⊢
    have ih := dcmp_at hx.tail hy.tail (by simpa using hl) (by simpa using h) hd hne
    have hx1 := hx.head; have hy1 := hy.head
    unfold IsD dwB at hx1 hy1
    rw [← ih]
    have hne' : dval xs ≠ dval ys := by
      intro e
      rw [e, cmpI_self] at ih
      exact hne (cmpI_zero ih.symm)
    rcases Int.lt_or_gt_of_ne hne' with q | q
    · rw [cmpI_lt q, cmpI_lt (by unfold dval dwB; omega)]
    · rw [cmpI_gt q, cmpI_gt (by unfold dval dwB; omega)]
theorem dcmp_widths {xs ys : List Int} (hx : DF xs) (hy : DF ys) (h : dwid xs ≠ dwid ys) : cmpI (dval xs) (dval ys) = cmpI (dwid xs) (dwid ys) := by
  rcases Nat.lt_or_gt_of_ne h with q | q
  · rw [cmpI_lt (dval_wid_lt hx hy q), cmpI_lt (by omega)]
  · rw [cmpI_gt (dval_wid_lt hy hx q), cmpI_gt (by omega)]
theorem dlst_get {xs : List Int} {j : Nat} (h : j < dwid xs) : (dlst xs)[j]'(by rw [dlength_lst]; exact h) = xs[j]'(by have := dwid_le xs; omega) := by simp [dlst]
theorem dcmp_end {xs ys : List Int} {n : Nat} (hn : dwid xs = n) (hn' : dwid ys = n)
    (he : ∀ j (h1 : j < xs.length) (h2 : j < ys.length), j < n → xs[j] = ys[j]) : cmpI (dval xs) (dval ys) = 0 := by
  have e : dlst xs = dlst ys := by
    refine List.ext_getElem (by rw [dlength_lst, dlength_lst]; omega) (fun j h1 h2 => ?_)
    rw [dlength_lst] at h1 h2
    rw [dlst_get h1, dlst_get h2]
    exact he j _ _ (by omega)
  rw [← dval_lst xs, ← dval_lst ys, e, cmpI_self]
theorem dcmp_here {xs ys : List Int} {n j : Nat} (hx : DF xs) (hy : DF ys) (hn : dwid xs = n) (hn' : dwid ys = n) (hj : j < n)
    (he : ∀ i (h1 : i < xs.length) (h2 : i < ys.length), j < i → i < n → xs[i] = ys[i]) (h1 : j < xs.length) (h2 : j < ys.length) (hne : xs[j] ≠ ys[j]) : cmpI (dval xs) (dval ys) = cmpI xs[j] ys[j] := by
  have l1 := dlength_lst xs
  have l2 := dlength_lst ys
  have g1 : (dlst xs)[j]'(by omega) = xs[j] := dlst_get (by omega)
  have g2 : (dlst ys)[j]'(by omega) = ys[j] := dlst_get (by omega)
  rw [← dval_lst xs, ← dval_lst ys, ← g1, ← g2]
  refine dcmp_at (xs := dlst xs) (ys := dlst ys) (hx.take _) (hy.take _) (by omega) (by omega) ?_ (by rw [g1, g2]; exact hne)
  refine List.ext_getElem (by simp [dlength_lst]; omega) (fun i h3 h4 => ?_)
  simp only [List.getElem_drop]
  simp only [List.length_drop] at h3 h4
  rw [dlst_get (by omega), dlst_get (by omega)]
  exact he _ _ _ (by omega) (by omega)

theorem dcarry_step {xs zs : List Int} {ysT ysT' p y s d c : Int} {i : Nat} (hi : i < zs.length) (hv : dval zs + dpw i * c = dval xs + ysT) (hT : ysT' = ysT + y * dpw i)
    (hs : s + dwB * d = zs[i] + y + c) (hp : p = dpw (i + 1)) : dval (zs.set i s) + p * d = dval xs + ysT' := by
  subst hp
  rw [dval_set zs i s hi, hT]
  generalize hz : zs[i] = z at *
  have e : s = z + y + c - dwB * d := by omega
  subst e
  simp only [dpw, Int.sub_mul, Int.add_mul, Int.mul_assoc, Int.mul_comm c (dpw i), Int.mul_comm d (dpw i)]
  omega
theorem dborrow_step {xs zs : List Int} {ysT ysT' p y s d c : Int} {i : Nat} (hi : i < zs.length) (hv : dval zs - dpw i * c = dval xs - ysT) (hT : ysT' = ysT + y * dpw i)
    (hs : s - dwB * d = zs[i] - y - c) (hp : p = dpw (i + 1)) : dval (zs.set i s) - p * d = dval xs - ysT' := by
  subst hp
  rw [dval_set zs i s hi, hT]
  generalize hz : zs[i] = z at *
  have e : s = z - y - c + dwB * d := by omega
  subst e
  simp only [dpw, Int.sub_mul, Int.add_mul, Int.mul_assoc, Int.mul_comm c (dpw i), Int.mul_comm d (dpw i)]
  omega
theorem dwid_top : ∀ {xs : List Int} {n : Nat}, dwid xs = n + 1 → ∃ h : n < xs.length, xs[n] ≠ 0
  | [], n, h => by simp [dwid] at h
  | x :: r, n, h => by
    unfold dwid at h
    split at h
    · split at h
      · cases h
      · have : n = 0 := by omega
        subst this
        exact ⟨by simp, by simpa⟩
    · rename_i hr
      obtain ⟨m, hm⟩ : ∃ m, dwid r = m + 1 := ⟨dwid r - 1, by omega⟩
      obtain ⟨h1, h2⟩ := dwid_top hm
      have : n = m + 1 := by omega
      subst this
      exact ⟨by simpa using h1, by simpa using h2⟩
end Go.Proofs.YtonmlmdnjjafhaaGreat
