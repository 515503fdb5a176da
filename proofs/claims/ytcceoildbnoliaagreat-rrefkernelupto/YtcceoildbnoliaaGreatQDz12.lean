/-
  Dz12: determinants of matrices of integers: by the first column; linear and alternating in the rows; unique so; of products, of the turned matrix. Plain mathematics: nothing of the program.
-/
import Derived.Test.YtcceoildbnoliaaGreatQEach9ToPr12
namespace Go.Proofs.YtcceoildbnoliaaGreat
set_option linter.unusedVariables false

def su : Nat → (Nat → Int) → Int
  | 0, _ => 0
  | n + 1, f => su n f + f n

theorem su_congr : ∀ {n : Nat} {f g : Nat → Int}, (∀ k, k < n → f k = g k) → su n f = su n g
  | 0, _, _, _ => rfl
  | n + 1, f, g, h => by
    show su n f + f n = su n g + g n
    rw [su_congr (fun k hk => h k (by omega)), h n (by omega)]
theorem su_zero : ∀ {n : Nat} {f : Nat → Int}, (∀ k, k < n → f k = 0) → su n f = 0
  | 0, _, _ => rfl
  | n + 1, f, h => by
    show su n f + f n = 0
    rw [su_zero (fun k hk => h k (by omega)), h n (by omega)]; rfl
theorem su_add : ∀ (n : Nat) (f g : Nat → Int), su n (fun k => f k + g k) = su n f + su n g
  | 0, _, _ => rfl
  | n + 1, f, g => by
    show su n (fun k => f k + g k) + (f n + g n) = su n f + f n + (su n g + g n)
    rw [su_add n f g]; omega
theorem su_mul : ∀ (n : Nat) (c : Int) (f : Nat → Int), su n (fun k => c * f k) = c * su n f
  | 0, c, _ => by show (0 : Int) = c * 0; simp
  | n + 1, c, f => by
    show su n (fun k => c * f k) + c * f n = c * (su n f + f n)
    rw [su_mul n c f, Int.mul_add]
theorem su_mulr (n : Nat) (c : Int) (f : Nat → Int) : su n (fun k => f k * c) = su n f * c := by
  rw [Int.mul_comm, ← su_mul]; exact su_congr fun k _ => Int.mul_comm _ _
theorem su_swap : ∀ (n m : Nat) (f : Nat → Nat → Int), su n (fun i => su m (fun j => f i j)) = su m (fun j => su n (fun i => f i j))
  | 0, m, f => by
    show (0 : Int) = _
    exact (su_zero fun k _ => rfl).symm
  | n + 1, m, f => by
    show su n (fun i => su m (fun j => f i j)) + su m (fun j => f n j) = su m (fun j => su n (fun i => f i j) + f n j)
    rw [su_add, su_swap n m f]
theorem su_one : ∀ {n i : Nat} {f : Nat → Int}, i < n → (∀ k, k < n → k ≠ i → f k = 0) → su n f = f i
  | 0, i, f, h, _ => by omega
  | n + 1, i, f, h, hz => by
    show su n f + f n = f i
    by_cases hi : i = n
    · subst hi
      rw [su_zero (fun k hk => hz k (by omega) (by omega))]; omega
    · rw [su_one (by omega : i < n) (fun k hk hne => hz k (by omega) hne), hz n (by omega) (by omega)]; omega
/-- Two neighbours that cancel, all others 0. -/
theorem su_pair : ∀ {n i : Nat} {f : Nat → Int}, i + 1 < n → (∀ k, k < n → k ≠ i → k ≠ i + 1 → f k = 0) → f i + f (i + 1) = 0 → su n f = 0
  | 0, i, f, h, _, _ => by omega
  | n + 1, i, f, h, hz, hc => by
    show su n f + f n = 0
    by_cases hi : i + 1 = n
    · subst hi
      rw [su_one (by omega : i < i + 1) (fun k hk hne => hz k (by omega) hne (by omega))]; exact hc
    · rw [su_pair (by omega : i + 1 < n) (fun k hk h1 h2 => hz k (by omega) h1 h2) hc, hz n (by omega) (by omega) (by omega)]; rfl
def skd (i k : Nat) : Nat := if k < i then k else k + 1
def sgd : Nat → Int
  | 0 => 1
  | n + 1 => - sgd n
def dlz (i j : Nat) : Int := if i = j then 1 else 0
def stR (A : Nat → Nat → Int) (i : Nat) (u : Nat → Int) : Nat → Nat → Int := fun r c => if r = i then u c else A r c
def det : Nat → (Nat → Nat → Int) → Int
  | 0, _ => 1
  | n + 1, A => su (n + 1) fun i => sgd i * A i 0 * det n (fun r c => A (skd i r) (c + 1))

theorem det_congr : ∀ {n : Nat} {A B : Nat → Nat → Int}, (∀ i j, i < n → j < n → A i j = B i j) → det n A = det n B
  | 0, _, _, _ => rfl
  | n + 1, A, B, h => su_congr fun i hi => by
    show sgd i * A i 0 * det n (fun r c => A (skd i r) (c + 1)) = sgd i * B i 0 * det n (fun r c => B (skd i r) (c + 1))
    rw [h i 0 hi (by omega), det_congr (A := fun r c => A (skd i r) (c + 1)) (B := fun r c => B (skd i r) (c + 1)) fun r c hr hc => h _ _ (by unfold skd; split <;> omega) (by omega)]

/-- Linear and alternating in n rows of n entries. -/
structure Alt (n : Nat) (F : (Nat → Nat → Int) → Int) : Prop where
  congr : ∀ A B : Nat → Nat → Int, (∀ i j, i < n → j < n → A i j = B i j) → F A = F B
  lin : ∀ (A : Nat → Nat → Int) (i : Nat) (u v : Nat → Int) (x y : Int), i < n → F (stR A i fun j => x * u j + y * v j) = x * F (stR A i u) + y * F (stR A i v)
  alt : ∀ (A : Nat → Nat → Int) (i : Nat), i + 1 < n → (∀ j, j < n → A i j = A (i + 1) j) → F A = 0

theorem det_alt : ∀ n : Nat, Alt n (det n)
  | 0 => ⟨fun _ _ _ => rfl, fun _ i _ _ _ _ h => by omega, fun _ i h => by omega⟩
  | n + 1 => by
    have IH := det_alt n
    refine ⟨fun A B h => det_congr h, fun A a u v x y ha => ?_, fun A a ha he => ?_⟩
    · show su (n + 1) _ = x * su (n + 1) _ + y * su (n + 1) _
      rw [← su_mul, ← su_mul, ← su_add]
      refine su_congr fun i hi => ?_
      by_cases hia : i = a
      · subst hia
        have e : ∀ z : Nat → Int, det n (fun r c => stR A i z (skd i r) (c + 1)) = det n (fun r c => A (skd i r) (c + 1)) := fun z => det_congr fun r c _ _ => if_neg (by unfold skd; split <;> omega)
        have e0 : ∀ z : Nat → Int, stR A i z i 0 = z 0 := fun z => if_pos rfl
        simp only [e, e0]
        grind
      · have e0 : ∀ z : Nat → Int, stR A a z i 0 = A i 0 := fun z => if_neg hia
        obtain ⟨b, hb, hbn⟩ : ∃ b, skd i b = a ∧ b < n := ⟨if a < i then a else a - 1, by unfold skd; grind, by split <;> omega⟩
        have e : ∀ z : Nat → Int, det n (fun r c => stR A a z (skd i r) (c + 1)) = det n (stR (fun r c => A (skd i r) (c + 1)) b fun c => z (c + 1)) := fun z => det_congr fun r c _ _ => by
          show (if skd i r = a then z (c + 1) else A (skd i r) (c + 1)) = if r = b then z (c + 1) else A (skd i r) (c + 1)
          by_cases hrb : r = b
          · rw [if_pos (by rw [hrb]; exact hb), if_pos hrb]
          · rw [if_neg (by rw [← hb]; unfold skd; grind), if_neg hrb]
        simp only [e, e0]
        rw [IH.lin _ b _ _ x y hbn]
        grind
    · refine su_pair (i := a) ha (fun i hi h1 h2 => ?_) ?_
      · have h0 : det n (fun r c => A (skd i r) (c + 1)) = 0 := by
          refine IH.alt _ (if i < a then a - 1 else a) (by split <;> omega) fun j hj => ?_
          have e1 : skd i (if i < a then a - 1 else a) = a := by unfold skd; split <;> split <;> omega
          have e2 : skd i ((if i < a then a - 1 else a) + 1) = a + 1 := by unfold skd; split <;> split <;> omega
          show A (skd i (if i < a then a - 1 else a)) (j + 1) = A (skd i ((if i < a then a - 1 else a) + 1)) (j + 1)
          rw [e1, e2]; exact he _ (by omega)
        rw [h0, Int.mul_zero]
      · have e : det n (fun r c => A (skd a r) (c + 1)) = det n (fun r c => A (skd (a + 1) r) (c + 1)) := det_congr fun r c hr hc => by
          by_cases hra : r = a
          · subst hra
            have e1 : skd r r = r + 1 := by unfold skd; split <;> omega
            have e2 : skd (r + 1) r = r := by unfold skd; split <;> omega
            show A (skd r r) (c + 1) = A (skd (r + 1) r) (c + 1)
            rw [e1, e2]; exact (he _ (by omega)).symm
          · have e1 : skd a r = skd (a + 1) r := by unfold skd; split <;> split <;> omega
            show A (skd a r) (c + 1) = A (skd (a + 1) r) (c + 1)
            rw [e1]
        rw [e, he 0 (by omega)]
        show _ + - sgd a * _ * _ = 0
        grind

theorem stR_self (A : Nat → Nat → Int) (i : Nat) : stR A i (A i) = A := by
  funext r c; unfold stR; split <;> simp_all
theorem stR_two {A : Nat → Nat → Int} {i k : Nat} (h : i ≠ k) (u v : Nat → Int) : stR (stR A i u) k v = stR (stR A k v) i u := by
  funext r c; unfold stR; split <;> split <;> simp_all
theorem stR_at (A : Nat → Nat → Int) (i : Nat) (u : Nat → Int) : stR A i u i = u := by funext c; simp [stR]
theorem stR_off (A : Nat → Nat → Int) {i k : Nat} (h : k ≠ i) (u : Nat → Int) : stR A i u k = A k := by funext c; simp [stR, h]

section
variable {n : Nat} {F : (Nat → Nat → Int) → Int}
theorem Alt.add (h : Alt n F) {A : Nat → Nat → Int} {i : Nat} (hi : i < n) (u v : Nat → Int) : F (stR A i fun j => u j + v j) = F (stR A i u) + F (stR A i v) := by
  have := h.lin A i u v 1 1 hi
  simpa using this
theorem Alt.mul (h : Alt n F) {A : Nat → Nat → Int} {i : Nat} (hi : i < n) (x : Int) (u : Nat → Int) : F (stR A i fun j => x * u j) = x * F (stR A i u) := by
  have := h.lin A i u u x 0 hi
  simpa using this
/-- Two rows are made equal to the sum of two: what swapping does, where equal rows give 0. -/
theorem Alt.swap_of (h : Alt n F) {A : Nat → Nat → Int} {i k : Nat} (hi : i < n) (hk : k < n) (hik : i ≠ k)
    (h0 : ∀ u : Nat → Int, F (stR (stR A i u) k u) = 0) : F (stR (stR A i (A k)) k (A i)) = - F A := by
  have h1 := h0 fun j => A i j + A k j
  rw [h.add hk, stR_two hik, stR_two hik, h.add hi, h.add hi, stR_two (Ne.symm hik), stR_two (Ne.symm hik), stR_two (Ne.symm hik), stR_two (Ne.symm hik)] at h1
  have h2 := h0 (A i)
  have h3 := h0 (A k)
  rw [h2, h3] at h1
  rw [stR_self A i, stR_self A k] at h1
  omega
theorem Alt.swap1 (h : Alt n F) {A : Nat → Nat → Int} {i : Nat} (hi : i + 1 < n) : F (stR (stR A i (A (i + 1))) (i + 1) (A i)) = - F A :=
  h.swap_of (by omega) hi (by omega) fun u => h.alt _ i hi fun j _ => by rw [stR_at, stR_off _ (by omega), stR_at]
theorem Alt.equal (h : Alt n F) : ∀ (d : Nat) {A : Nat → Nat → Int} {i : Nat}, i + d + 1 < n → (∀ j, j < n → A i j = A (i + d + 1) j) → F A = 0
  | 0, A, i, hi, he => h.alt A i hi he
  | d + 1, A, i, hi, he => by
    have h1 := h.swap1 (A := A) (i := i + d + 1) (by omega)
    have h2 := Alt.equal h d (A := stR (stR A (i + d + 1) (A (i + d + 1 + 1))) (i + d + 1 + 1) (A (i + d + 1))) (i := i) (by omega) (fun j hj => by
      rw [stR_off _ (by omega), stR_off _ (by omega), stR_off _ (by omega), stR_at]; exact he j hj)
    rw [h2] at h1; omega
theorem Alt.same (h : Alt n F) {A : Nat → Nat → Int} {i k : Nat} (hi : i < n) (hk : k < n) (hik : i ≠ k) (he : ∀ j, j < n → A i j = A k j) : F A = 0 := by
  rcases Nat.lt_or_gt_of_ne hik with hl | hl
  · obtain ⟨d, rfl⟩ : ∃ d, k = i + d + 1 := ⟨k - i - 1, by omega⟩
    exact h.equal d hk he
  · obtain ⟨d, rfl⟩ : ∃ d, i = k + d + 1 := ⟨i - k - 1, by omega⟩
    exact h.equal d hi fun j hj => (he j hj).symm
theorem Alt.swap (h : Alt n F) {A : Nat → Nat → Int} {i k : Nat} (hi : i < n) (hk : k < n) (hik : i ≠ k) : F (stR (stR A i (A k)) k (A i)) = - F A :=
  h.swap_of hi hk hik fun u => h.same hi hk hik fun j _ => by rw [stR_at, stR_off _ hik, stR_at]
theorem Alt.plus (h : Alt n F) {A : Nat → Nat → Int} {i k : Nat} (hi : i < n) (hk : k < n) (hik : i ≠ k) (t : Int) : F (stR A i fun j => A i j + t * A k j) = F A := by
  rw [h.add hi, h.mul hi, stR_self, h.same (A := stR A i (A k)) hi hk hik fun j _ => by rw [stR_at, stR_off _ (Ne.symm hik)]]
  omega
theorem Alt.sum (h : Alt n F) {A : Nat → Nat → Int} {i : Nat} (hi : i < n) (x : Nat → Int) (U : Nat → Nat → Int) : ∀ m : Nat, F (stR A i fun j => su m fun k => x k * U k j) = su m fun k => x k * F (stR A i (U k))
  | 0 => by
    have := h.mul (A := A) hi 0 (fun _ => 0)
    simpa [su] using this
  | m + 1 => by
    show F (stR A i fun j => (su m fun k => x k * U k j) + x m * U m j) = (su m fun k => x k * F (stR A i (U k))) + x m * F (stR A i (U m))
    rw [h.add hi, Alt.sum h hi x U m, h.mul hi]
end
end Go.Proofs.YtcceoildbnoliaaGreat
