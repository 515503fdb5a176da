/-
  QSig16ToMq16: Sig16, Pr12, Dz12, Mq16, joined.
-/
import Derived.Test.YtnpcfohimlfbdaaQVa16
import Derived.Deep.Cut
import Derived.Below

/- Sig16 -/
namespace Go.Proofs.Ytnpcfohimlfbdaa
open Go.RowKit
set_option linter.unusedVariables false

/-- How many of the first n are left without zeros at the end. -/
def sgN (zs : List Int) : Nat → Nat
  | 0 => 0
  | n + 1 => if zs.getD n 0 = 0 then sgN zs n else n + 1
def sgl (zs : List Int) : Nat := sgN zs zs.length
theorem sgN_le (zs : List Int) : ∀ n, sgN zs n ≤ n
  | 0 => Nat.le_refl _
  | n + 1 => by
    unfold sgN
    split
    · have := sgN_le zs n; omega
    · exact Nat.le_refl _
theorem sgl_le (zs : List Int) : sgl zs ≤ zs.length := sgN_le zs _
theorem sgl_last {zs : List Int} {n : Nat} (hl : zs.length = n + 1) (h : zs.getD n 0 ≠ 0) : sgl zs = n + 1 := by
  unfold sgl
  rw [hl]
  unfold sgN
  rw [if_neg h]
theorem Zl.take16 {w : World} {a : Option Addr} {l c k : Nat} {zs : List Int} (h : Zl w (.slice a l c) zs k) {m : Nat} (hm : m ≤ zs.length) : Zl w (.slice a m c) (zs.take m) k := by
  obtain ⟨a', c', h1, h2, h3, h4⟩ := h
  simp only [Value.slice.injEq] at h1
  obtain ⟨rfl, rfl, rfl⟩ := h1
  have e : (zs.take m).length = m := by simp; omega
  refine ⟨a, c, by rw [e], by omega, by omega, ?_⟩
  by_cases hz : m = 0
  · subst hz; exact .inl (by simp)
  · rcases h4 with h4 | ⟨b, off, h5, h6, h7⟩
    · subst h4; simp at hm; omega
    · refine .inr ⟨b, off, h5, h6, fun j hj => ?_⟩
      obtain ⟨x, y, q1, q2, q3⟩ := h7 j (by omega)
      exact ⟨x, y, q1, q2, by simpa using q3⟩
theorem wrapP16 {m : Nat} (h : m ≤ 1048576) : IntKind.i64.wrap (((m + 1 : Nat) : Int) - 1) = (m : Int) := by rw [wrap_is] <;> omega
def SigH (w : World) (zs : List Int) (a : Option Addr) (c gk : Nat) (s : Value) (wx : World) : Prop :=
  ∃ m, s = .slice a m c ∧ m ≤ zs.length ∧ gk = m ∧ sgN zs m = sgl zs ∧ Below w.heap.size w wx
def Signif (w : World) (zs : List Int) (a : Option Addr) (c k : Nat) (e : Ending) (w' : World) : Prop :=
  e = .returned (.slice a (sgl zs) c) ∧ Zl w' (.slice a (sgl zs) c) (zs.take (sgl zs)) k ∧ Below w.heap.size w w'
set_option maxHeartbeats 1600000 in
set_option maxRecDepth 100000 in
theorem sig_any {w : World} {a : Option Addr} {l c k : Nat} {zs : List Int} (h : Zl w (.slice a l c) zs k) : Calls Try.prog 30 #[.slice a l c] w (Signif w zs a c k) := by
  have A0 := hid h
  obtain ⟨a0, c0, e0, hc0, hn0, hf0⟩ := h.form9
  simp only [Value.slice.injEq] at e0
  obtain ⟨rfl, rfl, rfl⟩ := e0
  have F0 := hid hf0
  have H0 : Hid (SigH w zs a c zs.length (.slice a zs.length c) w) := ⟨zs.length, rfl, Nat.le_refl _, rfl, rfl, Below.refl _ _⟩
  obtain ⟨n, hn⟩ : ∃ n, zs.length = n := ⟨_, rfl⟩
  rw [hn] at A0 hc0 hn0 H0 ⊢
  have HN := hid hn
  clear h hf0 hn
  go_enter Try.func30, Try.ntmps30
  go_wp2_with fail
  go_loopg [0] n (fun gk s0 wx => SigH w zs a c gk s0 wx)
  case atStart => exact H0.out
  case round =>
    clear H0
    obtain ⟨m, rfl, hm, hg, hs, hG⟩ := hrel
    have G := hid hG
    have HG := hid hg
    have HS := hid hs
    rw [HN.out] at hm
    clear hG hg hs
    by_cases h0 : m = 0
    · subst h0
      have FIN : Hid (Signif w zs a c k (.returned (.slice a 0 c)) wr) := by
        have e : sgl zs = 0 := by rw [← HS.out]; rfl
        unfold Hid Signif
        rw [e]
        exact ⟨rfl, (A0.out.now G.out).take16 (Nat.zero_le _), G.out⟩
      clear HS HG G
      go_wp2
      go_ret
      exact FIN.out
    · obtain ⟨m, rfl⟩ : ∃ m', m = m' + 1 := ⟨m - 1, by omega⟩
      have hml : m < zs.length := by rw [HN.out]; omega
      obtain ⟨b1, o1, rfl⟩ := F0.out (fun e => by rw [e] at hml; simp at hml)
      obtain ⟨nf, xf, adf, qf, k0, k1, zf⟩ := (A0.out.now G.out).at9 (i := m) hml
      rw [getD_at hml] at zf
      have HC := hid (sign_z zf)
      have hw := wrapP16 (m := m) (by omega)
      have hp : (0 : Int) < ((m + 1 : Nat) : Int) := by omega
      have hlt : (m : Int) < ((m + 1 : Nat) : Int) := by omega
      have hmc : (m : Int) ≤ (c : Int) := by omega
      clear zf h0
      by_cases hz : zs.getD m 0 = 0
      · have NX : Hid (∀ w', Below wr.heap.size wr w' → SigH w zs (some ⟨b1, o1, none⟩) c m (.slice (some ⟨b1, o1, none⟩) m c) w') := fun w' b => ⟨m, rfl, by omega, rfl, by
          have := HS.out
          unfold sgN at this
          rw [if_pos hz] at this
          exact this, below_step G.out b⟩
        have HMM : Hid (m < gk) := by unfold Hid; rw [HG.out]; omega
        rw [hz, cmpI_self] at HC
        clear hz HS HG hml
        go_wp2_with fail
        refine HC.out.mono ?_
        rintro e w1 ⟨rfl, b⟩
        have N1 := hid (NX.out w1 b)
        clear HC NX G k0 k1 b
        go_wp2_with fail
        go_roundg m
        case rel => exact N1.out
        case measure => exact HMM.out
      · have HCZ : Hid ((cmpI (zs.getD m 0) 0 == 0) = false) := by unfold Hid; rw [beq_eq_false_iff_ne]; exact fun e => hz (cmpI_zero e)
        have FIN : Hid (∀ w', Below wr.heap.size wr w' → Signif w zs (some ⟨b1, o1, none⟩) c k (.returned (.slice (some ⟨b1, o1, none⟩) (m + 1) c)) w') := fun w' b => by
          have e : sgl zs = m + 1 := by
            rw [← HS.out]
            unfold sgN
            rw [if_neg hz]
          unfold Signif
          rw [e]
          exact ⟨rfl, (A0.out.now (below_step G.out b)).take16 (by omega), below_step G.out b⟩
        generalize cmpI (zs.getD m 0) 0 = q at *
        clear hz HS HG hml
        go_wp2_with fail
        refine HC.out.mono ?_
        rintro e w1 ⟨rfl, b⟩
        have N1 := hid (FIN.out w1 b)
        have hq := HCZ.out
        clear HC FIN G k0 k1 b
        go_wp2
        go_ret
        exact N1.out
end Go.Proofs.Ytnpcfohimlfbdaa

/- Pr12 -/
namespace Go.Proofs.Ytnpcfohimlfbdaa

end Go.Proofs.Ytnpcfohimlfbdaa

/- Dz12 -/
namespace Go.Proofs.Ytnpcfohimlfbdaa
set_option linter.unusedVariables false

def su : Nat → (Nat → Int) → Int
  | 0, _ => 0
  | n + 1, f => su n f + f n

theorem su_congr : ∀ {n : Nat} {f g : Nat → Int}, (∀ k, k < n → f k = g k) → su n f = su n g
  | 0, _, _, _ => rfl
  | n + 1, f, g, h => by
    show su n f + f n = su n g + g n
    rw [su_congr (fun k hk => h k (by omega)), h n (by omega)]
theorem su_zero : ∀ {n : Nat} {f : Nat → Int}, (∀ k, k < n → f k = 0) → su n f = 0
  | 0, _, _ => rfl
  | n + 1, f, h => by
    show su n f + f n = 0
    rw [su_zero (fun k hk => h k (by omega)), h n (by omega)]; rfl
theorem su_add : ∀ (n : Nat) (f g : Nat → Int), su n (fun k => f k + g k) = su n f + su n g
  | 0, _, _ => rfl
  | n + 1, f, g => by
    show su n (fun k => f k + g k) + (f n + g n) = su n f + f n + (su n g + g n)
    rw [su_add n f g]; omega
theorem su_mul : ∀ (n : Nat) (c : Int) (f : Nat → Int), su n (fun k => c * f k) = c * su n f
  | 0, c, _ => by show (0 : Int) = c * 0; simp
  | n + 1, c, f => by
    show su n (fun k => c * f k) + c * f n = c * (su n f + f n)
    rw [su_mul n c f, Int.mul_add]
theorem su_mulr (n : Nat) (c : Int) (f : Nat → Int) : su n (fun k => f k * c) = su n f * c := by
  rw [Int.mul_comm, ← su_mul]; exact su_congr fun k _ => Int.mul_comm _ _
theorem su_swap : ∀ (n m : Nat) (f : Nat → Nat → Int), su n (fun i => su m (fun j => f i j)) = su m (fun j => su n (fun i => f i j))
  | 0, m, f => by
    show (0 : Int) = _
    exact (su_zero fun k _ => rfl).symm
  | n + 1, m, f => by
    show su n (fun i => su m (fun j => f i j)) + su m (fun j => f n j) = su m (fun j => su n (fun i => f i j) + f n j)
    rw [su_add, su_swap n m f]
theorem su_one : ∀ {n i : Nat} {f : Nat → Int}, i < n → (∀ k, k < n → k ≠ i → f k = 0) → su n f = f i
  | 0, i, f, h, _ => by omega
  | n + 1, i, f, h, hz => by
    show su n f + f n = f i
    by_cases hi : i = n
    · subst hi
      rw [su_zero (fun k hk => hz k (by omega) (by omega))]; omega
    · rw [su_one (by omega : i < n) (fun k hk hne => hz k (by omega) hne), hz n (by omega) (by omega)]; omega
section
variable {n : Nat} {F : (Nat → Nat → Int) → Int}
end
end Go.Proofs.Ytnpcfohimlfbdaa

/- Mq16 -/
namespace Go.Proofs.Ytnpcfohimlfbdaa
set_option linter.unusedVariables false

/-- The coefficient s when the first i rounds are done, and j steps of the next one. -/
def cfP (P Q : List Int) (i j s : Nat) : Int :=
  su i (fun a => if a ≤ s ∧ s - a < Q.length then P.getD a 0 * Q.getD (s - a) 0 else 0) + (if i ≤ s ∧ s - i < j then P.getD i 0 * Q.getD (s - i) 0 else 0)
def coL (P Q : List Int) (i j : Nat) : List Int := (List.range (P.length + Q.length - 1)).map (cfP P Q i j)
theorem coL_length (P Q : List Int) (i j : Nat) : (coL P Q i j).length = P.length + Q.length - 1 := by simp [coL]
theorem coL_getD {P Q : List Int} {i j s : Nat} (hs : s < P.length + Q.length - 1) : (coL P Q i j).getD s 0 = cfP P Q i j s := by simp [coL, hs]
theorem coL_start (P Q : List Int) : coL P Q 0 0 = List.replicate (P.length + Q.length - 1) 0 := by
  apply List.ext_getElem
  · simp [coL]
  · intro t h1 h2
    simp [coL, cfP, su]
theorem coL_next (P Q : List Int) (i : Nat) : coL P Q i Q.length = coL P Q (i + 1) 0 := by
  unfold coL
  refine List.map_congr_left fun s _ => ?_
  unfold cfP
  show _ = (su i _ + _) + _
  simp
theorem cfP_step {P Q : List Int} {i j s : Nat} : cfP P Q i (j + 1) s = if s = i + j then P.getD i 0 * Q.getD j 0 + cfP P Q i j s else cfP P Q i j s := by
  unfold cfP
  by_cases h : s = i + j
  · subst h
    rw [if_pos rfl, if_pos ⟨by omega, by omega⟩, if_neg (by omega), show i + j - i = j by omega]
    omega
  · rw [if_neg h]
    by_cases h2 : i ≤ s ∧ s - i < j
    · rw [if_pos h2, if_pos ⟨h2.1, by omega⟩]
    · rw [if_neg h2, if_neg (by omega)]
theorem coL_step {P Q : List Int} {i j : Nat} (hi : i < P.length) (hj : j < Q.length) : coL P Q i (j + 1) = (coL P Q i j).set (i + j) (P.getD i 0 * Q.getD j 0 + (coL P Q i j).getD (i + j) 0) := by
  apply List.ext_getElem
  · simp [coL]
  · intro t h1 h2
    have ht : t < P.length + Q.length - 1 := by simpa [coL] using h1
    have e1 : (coL P Q i (j + 1))[t] = cfP P Q i (j + 1) t := by simp [coL]
    rw [e1, cfP_step]
    by_cases h : t = i + j
    · subst h
      rw [if_pos rfl, List.getElem_set_self, coL_getD ht]
    · rw [if_neg h, List.getElem_set_ne (by omega)]
      simp [coL]
theorem su_abs16 {M : Int} : ∀ {n : Nat} {f : Nat → Int}, (∀ a, a < n → ((f a).natAbs : Int) ≤ M) → ((su n f).natAbs : Int) ≤ n * M
  | 0, f, _ => by simp [su]
  | n + 1, f, h => by
    have h1 := su_abs16 (n := n) (f := f) (fun a ha => h a (by omega))
    have h2 := h n (by omega)
    show ((su n f + f n).natAbs : Int) ≤ _
    have e : ((n + 1 : Nat) : Int) * M = n * M + M := by rw [Int.natCast_add, Int.add_mul]; simp
    rw [e]
    omega
theorem mul_abs {x y : Int} {k l : Nat} (hx : (x.natAbs : Int) < pw k) (hy : (y.natAbs : Int) < pw l) : ((x * y).natAbs : Int) ≤ pw (k + l) := by
  rw [Int.natAbs_mul, Int.natCast_mul, pw_plus]
  exact Int.mul_le_mul (by omega) (by omega) (by omega) (by have := pw_pos k; omega)
theorem lt_getD {zs : List Int} {k : Nat} (h : ∀ z ∈ zs, (z.natAbs : Int) < pw k) (i : Nat) : ((zs.getD i 0).natAbs : Int) < pw k := by
  by_cases q : i < zs.length
  · have e : zs.getD i 0 = zs[i] := by simp [q]
    rw [e]
    exact h _ (List.getElem_mem q)
  · have e : zs.getD i 0 = 0 := by simp [q]
    rw [e]
    have := pw_pos k
    simpa using this
theorem cfP_lt {P Q : List Int} {i j s kp kq : Nat} (hp : ∀ z ∈ P, (z.natAbs : Int) < pw kp) (hq : ∀ z ∈ Q, (z.natAbs : Int) < pw kq) (hi : i ≤ 1048576) : ((cfP P Q i j s).natAbs : Int) < pw (kp + kq + 1) := by
  have hM : ∀ a b, ((P.getD a 0 * Q.getD b 0).natAbs : Int) ≤ pw (kp + kq) := fun a b => mul_abs (lt_getD hp a) (lt_getD hq b)
  have hpos := pw_pos (kp + kq)
  have h1 : ((su i (fun a => if a ≤ s ∧ s - a < Q.length then P.getD a 0 * Q.getD (s - a) 0 else 0)).natAbs : Int) ≤ i * pw (kp + kq) := su_abs16 fun a ha => by
    split
    · exact hM _ _
    · simpa using Int.le_of_lt hpos
  have h2 : ((if i ≤ s ∧ s - i < j then P.getD i 0 * Q.getD (s - i) 0 else 0 : Int).natAbs : Int) ≤ pw (kp + kq) := by
    split
    · exact hM _ _
    · simpa using Int.le_of_lt hpos
  have h3 : (i : Int) * pw (kp + kq) ≤ 1048576 * pw (kp + kq) := Int.mul_le_mul_of_nonneg_right (by omega) (by omega)
  have h4 : pw (kp + kq + 1) = pw (kp + kq) * pw 1 := pw_plus _ _
  have h5 : pw 1 = 18446744073709551616 := by simp [pw, wB]
  rw [h4, h5]
  unfold cfP
  omega
/-- The product, for lists that do not end in 0. -/
def mulP (P Q : List Int) : List Int := coL P Q P.length 0
theorem mulP_length (P Q : List Int) : (mulP P Q).length = P.length + Q.length - 1 := coL_length _ _ _ _
end Go.Proofs.Ytnpcfohimlfbdaa
