/-
  QDiv64ToGuess: Div64, DivWord, DivParts, Guess, joined.
-/
import Derived.Test.YtbalcjjeakdjkaaQDivPureToShift
import Derived.Test.YtbalcjjeakdjkaaQLen2ToByWord
import Derived.Shelf.Bits.Mul64
import Derived.Test.YtbalcjjeakdjkaaQMadeToBits
import Derived.Test.YtbalcjjeakdjkaaQProdToTimes

/- Div64 -/
namespace Go.Proofs.Ytbalcjjeakdjkaa
open Go.RowKit
set_option linter.unusedVariables false

/-- The dividend's three pieces, gone up by s places. -/
theorem div_up {x lo y s : Nat} (hl : lo < 18446744073709551616) (hxy : x < y) (hs : s < 64) (hY : y * 2 ^ s < 18446744073709551616) :
    ∃ u un : Nat, bits BinOp.or IntKind.u64 (IntKind.u64.wrap ((x : Int) * 2 ^ s)) ((lo : Int) / 2 ^ (64 - s)) = (u : Int) ∧ IntKind.u64.wrap ((lo : Int) * 2 ^ s) = (un : Int) ∧ un < 18446744073709551616 ∧
      u * 18446744073709551616 + un = (x * 18446744073709551616 + lo) * 2 ^ s ∧ u < y * 2 ^ s := by
  have hp := Nat.two_pow_pos s
  have hq := Nat.two_pow_pos (64 - s)
  have hsp := pow_split (p := s) (by omega)
  have hc : lo / 2 ^ (64 - s) < 2 ^ s := by rw [Nat.div_lt_iff_lt_mul hq, hsp]; exact hl
  have hxP : x * 2 ^ s + 2 ^ s ≤ y * 2 ^ s := by rw [← Nat.succ_mul]; exact Nat.mul_le_mul_right _ hxy
  have hx64 : x < 18446744073709551616 := by
    have : x * 1 ≤ x * 2 ^ s := Nat.mul_le_mul_left _ hp
    omega
  have e1 : IntKind.u64.wrap ((x : Int) * 2 ^ s) = ((x * 2 ^ s : Nat) : Int) := by
    rw [cast_pow, ← Int.natCast_mul]; exact Mul64.wrapN _ (by omega)
  have e2 : (lo : Int) / 2 ^ (64 - s) = ((lo / 2 ^ (64 - s) : Nat) : Int) := by rw [cast_pow]; simp
  have e3 : x * 2 ^ s ||| lo / 2 ^ (64 - s) = x * 2 ^ s + lo / 2 ^ (64 - s) := by rw [Nat.mul_comm]; exact (Nat.two_pow_add_eq_or_of_lt hc _).symm
  have e4 : IntKind.u64.wrap ((lo : Int) * 2 ^ s) = ((lo * 2 ^ s % 18446744073709551616 : Nat) : Int) := by
    rw [cast_pow, ← Int.natCast_mul]; exact Mul64.wrapM _
  have e5 : lo * 2 ^ s / 18446744073709551616 = lo / 2 ^ (64 - s) := by
    rw [← hsp, Nat.mul_comm (2 ^ s), Nat.mul_div_mul_right _ _ hp]
  refine ⟨x * 2 ^ s + lo / 2 ^ (64 - s), lo * 2 ^ s % 18446744073709551616, ?_, e4, Nat.mod_lt _ (by omega), ?_, by omega⟩
  · rw [e1, e2, bits_or_nat _ _ (by omega) (by omega), e3]
  · rw [← e5]
    have e6 := Nat.div_add_mod (lo * 2 ^ s) 18446744073709551616
    have e7 : (x * 18446744073709551616 + lo) * 2 ^ s = x * 2 ^ s * 18446744073709551616 + lo * 2 ^ s := by rw [Nat.add_mul, Nat.mul_right_comm]
    rw [e7, Nat.add_mul]
    obtain ⟨L, hL⟩ : ∃ L, L = lo * 2 ^ s := ⟨_, rfl⟩
    rw [← hL] at e6 ⊢
    rw [Nat.add_assoc, Nat.mul_comm (L / 18446744073709551616), e6]

theorem div_begin {v y1 : Nat} (hv : v < 18446744073709551616) (h1 : 0 < y1) : ∃ q r : Nat, (v : Int).tdiv (y1 : Int) = (q : Int) ∧ (v : Int) / (y1 : Int) = (q : Int) ∧ IntKind.u64.wrap (q : Int) = (q : Int) ∧ IntKind.u64.wrap ((q : Int) * (y1 : Int)) = ((q * y1 : Nat) : Int) ∧
    IntKind.u64.wrap ((v : Int) - (q : Int) * (y1 : Int)) = (r : Int) ∧ q ≤ v ∧ r < y1 ∧ q = v / y1 ∧ r = v % y1 := by
  have q1 := Nat.div_le_self v y1
  have q2 := Nat.div_add_mod v y1
  have q3 := Nat.mod_lt v h1
  rw [Nat.mul_comm] at q2
  refine ⟨v / y1, v % y1, (Int.ofNat_tdiv v y1).symm, by simp, Mul64.wrapN _ (by omega), ?_, ?_, q1, q3, rfl, rfl⟩
  · rw [← Int.natCast_mul]; exact Mul64.wrapN _ (by omega)
  · rw [← Int.natCast_mul, show (v : Int) - ((v / y1 * y1 : Nat) : Int) = ((v % y1 : Nat) : Int) by omega]; exact Mul64.wrapN _ (by omega)
theorem up_rest {u d k Y v : Nat} (h : k * Y + v = u * 4294967296 + d) (hv : v < 18446744073709551616) :
    IntKind.u64.wrap (IntKind.u64.wrap (IntKind.u64.wrap ((u : Int) * 4294967296) + (d : Int)) - IntKind.u64.wrap ((k : Int) * (Y : Int))) = (v : Int) := by
  rw [← Int.natCast_mul]
  obtain ⟨p, hp⟩ : ∃ p, p = k * Y := ⟨_, rfl⟩
  rw [← hp] at h ⊢
  simp only [IntKind.wrap_u64]
  omega

end Go.Proofs.Ytbalcjjeakdjkaa

/- DivWord -/
namespace Go.Proofs.Ytbalcjjeakdjkaa
open Go.RowKit
set_option linter.unusedVariables false

/-- The rows from k on are divided, r is left above the first k words. -/
def WordAt (L zs : List Int) (k : Nat) (W r : Int) : Prop :=
  zs.length = L.length ∧ WF zs ∧ (∀ j (h : j < zs.length) (h' : j < L.length), j < k → zs[j] = L[j]) ∧ val L = val (L.take k) + pw k * (W * val (zs.drop k) + r)
theorem WordAt.start {L : List Int} (hL : WF L) (W : Int) : WordAt L L L.length W 0 :=
  ⟨rfl, hL, fun j _ _ _ => rfl, by simp [val]⟩
theorem drop_set_at {zs : List Int} {k : Nat} (h : k < zs.length) (x : Int) : (zs.set k x).drop k = x :: zs.drop (k + 1) := by
  rw [List.drop_eq_getElem_cons (by simpa using h)]
  rw [List.getElem_set_self, List.drop_set, if_pos (by omega)]
theorem word_sum (a p x W V r q r' : Int) (h : q * W + r' = r * wB + x) : a + x * p + wB * p * (W * V + r) = a + p * (W * (q + wB * V) + r') := by
  have e : r' = r * wB + x - q * W := by omega
  subst e
  simp only [Int.mul_add, Int.mul_sub, Int.mul_comm, Int.mul_left_comm]
  omega
theorem WordAt.step {L zs : List Int} {k : Nat} {W r q r' : Int} (h : WordAt L zs (k + 1) W r) (hk : k < L.length) (hq : IsW q) (he : q * W + r' = r * wB + L[k]) : WordAt L (zs.set k q) k W r' := by
  obtain ⟨h1, h2, h3, h4⟩ := h
  refine ⟨by rw [List.length_set]; exact h1, h2.set k hq, fun j hj hj' hjk => ?_, ?_⟩
  · rw [List.getElem_set_ne (by omega)]; exact h3 j (by simpa using hj) hj' (by omega)
  · rw [h4, drop_set_at (by omega), val_take_succ L k hk]
    show _ = _ + pw k * (W * (q + wB * val (zs.drop (k + 1))) + r')
    exact word_sum _ _ _ _ _ _ _ _ he
theorem WordAt.done {L zs : List Int} {W r : Int} (h : WordAt L zs 0 W r) : val L = W * val zs + r := by
  have := h.2.2.2
  simpa [val, pw] using this

/-- What divnat.Word answers. -/
def Worded (w : World) (xs : List Int) (W : Int) (e : Ending) (w' : World) : Prop :=
  ∃ zs q r, e = .returned (.tuple #[q, .int .u64 r, .int .i64 0]) ∧ Own w.heap.size w' q zs ∧ Canon zs ∧ IsW r ∧ r < W ∧ val xs = W * val zs + r ∧ zs.length ≤ wid xs ∧ Below w.heap.size w w'

theorem least_own {w : World} {v : Value} {xs : List Int} (h : Sl w.heap.size w v xs) :
    Calls Try.prog 63 #[v] w fun e w' => ∃ r, e = .returned r ∧ Own w.heap.size w' r (lst xs) ∧ Below w.heap.size w w' :=
  (least_any h).mono fun e w' ⟨h1, h2, h3, h4⟩ => by
    have hx := h.1
    obtain ⟨_, a, cap, _, h6, h7, _⟩ := h
    have := wid_le xs
    refine ⟨_, h1, ⟨(canon_lst hx).1, .inr ⟨w.heap.size, [], Nat.le_refl _, ?_, ?_, ?_⟩⟩, h3⟩
    · simp [length_lst]; omega
    · simp [length_lst]
    · simpa using h2

end Go.Proofs.Ytbalcjjeakdjkaa

/- DivParts -/
namespace Go.Proofs.Ytbalcjjeakdjkaa
open Go.RowKit
set_option linter.unusedVariables false

/-- Of all blocks, g alone may have turned. -/
def Only (g : Nat) (w w' : World) : Prop := w'.heap.size = w.heap.size ∧ ∀ h, h ≠ g → w'.heap[h]? = w.heap[h]?
theorem Only.refl (g : Nat) (w : World) : Only g w w := ⟨rfl, fun _ _ => rfl⟩
theorem Only.trans {g : Nat} {w w1 w2 : World} (h : Only g w w1) (k : Only g w1 w2) : Only g w w2 := ⟨k.1.trans h.1, fun j hj => (k.2 j hj).trans (h.2 j hj)⟩
theorem Only.set {g : Nat} {w w1 : World} (h : Only g w w1) (i : Nat) (v : Value) : Only g w (w1.setCell ⟨g, i, none⟩ v) := by
  refine ⟨by rw [← h.1]; simp [World.setCell], fun j hj => ?_⟩
  rw [← h.2 j hj]
  simp [World.setCell, Array.getElem?_modify, Ne.symm hj]
theorem Only.drew {g : Nat} {w w1 : World} (h : Only g w w1) (n : Nat) : Only g w (w1.drewN n) := ⟨h.1, h.2⟩
theorem Only.row {g j : Nat} {w w1 : World} {L : List Value} (h : Only g w w1) (hj : j ≠ g) (r : Row w j L) : Row w1 j L := (h.2 j hj).trans r

theorem take_step {zs xs : List Int} {o k : Nat} {z0 W cc bb hi lo l1 ov s d x z : Int} (hz : o + k < zs.length) (hzz : zs[o + k] = z) (hx : k < xs.length) (hxx : xs[k] = x) (hv : val zs - pw (o + k) * (cc + bb) = z0 - pw o * (val (xs.take k) * W))
    (hm : lo + wB * hi = x * W) (h1 : l1 + wB * ov = lo + cc + 0) (h2 : s - wB * d = z - l1 - bb) :
    val (zs.set (o + k) s) - pw (o + (k + 1)) * (hi + ov + d) = z0 - pw o * (val (xs.take (k + 1)) * W) := by
  rw [val_set zs (o + k) s hz, hzz, val_take_succ xs k hx, hxx, show o + (k + 1) = (o + k) + 1 by omega, pw]
  rw [pw_add] at hv ⊢
  generalize pw o = P at *
  generalize pw k = K at *
  generalize val zs = Z at *
  generalize val (xs.take k) = X at *
  have e : s = z - l1 - bb + wB * d := by omega
  subst e
  have e2 : l1 = lo + cc - wB * ov := by omega
  subst e2
  have e3 : lo = x * W - wB * hi := by omega
  subst e3
  grind
theorem take_last {zs : List Int} {o n : Nat} {z0 X cc bb s d z : Int} (hz : o + n < zs.length) (hzz : zs[o + n] = z) (hv : val zs - pw (o + n) * (cc + bb) = z0 - X) (h2 : s - wB * d = z - cc - bb) :
    val (zs.set (o + n) s) - pw (o + n + 1) * d = z0 - X := by
  rw [val_set zs (o + n) s hz, hzz, pw]
  generalize pw (o + n) = P at *
  generalize val zs = Z at *
  have e : s = z - cc - bb + wB * d := by omega
  subst e
  grind
theorem times_fits {v w cc hi lo l1 ov : Int} (hv : IsW v) (hw : IsW w) (hc : IsW cc) (h0 : 0 ≤ hi) (hlo : IsW lo) (hm : lo + wB * hi = v * w) (hl1 : IsW l1) (ho : 0 ≤ ov) (e1 : l1 + wB * ov = lo + cc + 0) : IsW (hi + ov) := by
  have := word_mul_le hv hw
  generalize v * w = p at *
  unfold IsW wB at *
  refine ⟨by omega, by omega⟩

theorem add_step {zs xs : List Int} {o k : Nat} {z0 cc s d x z : Int} (hz : o + k < zs.length) (hzz : zs[o + k] = z) (hx : k < xs.length) (hxx : xs[k] = x) (hv : val zs + pw (o + k) * cc = z0 + pw o * val (xs.take k)) (h2 : s + wB * d = z + x + cc) :
    val (zs.set (o + k) s) + pw (o + (k + 1)) * d = z0 + pw o * val (xs.take (k + 1)) := by
  rw [val_set zs (o + k) s hz, hzz, val_take_succ xs k hx, hxx, show o + (k + 1) = (o + k) + 1 by omega, pw]
  rw [pw_add] at hv ⊢
  generalize pw o = P at *
  generalize pw k = K at *
  generalize val zs = Z at *
  generalize val (xs.take k) = X at *
  have e : s = z + x + cc - wB * d := by omega
  subst e
  grind
theorem add_last {zs : List Int} {o n : Nat} {z0 X cc s d z : Int} (hz : o + n < zs.length) (hzz : zs[o + n] = z) (hv : val zs + pw (o + n) * cc = z0 + X) (h2 : s + wB * d = z + 0 + cc) :
    val (zs.set (o + n) s) + pw (o + n + 1) * d = z0 + X := by
  rw [val_set zs (o + n) s hz, hzz, pw]
  generalize pw (o + n) = P at *
  generalize val zs = Z at *
  have e : s = z + cc - wB * d := by omega
  subst e
  grind

end Go.Proofs.Ytbalcjjeakdjkaa

/- Guess -/
namespace Go.Proofs.Ytbalcjjeakdjkaa
open Go.RowKit
set_option linter.unusedVariables false

theorem val_top1 {bs : List Int} {N : Nat} (h : bs.length = N + 1) : val bs = val (bs.take N) + bs[N] * pw N := by
  have := val_take_succ bs N (by omega)
  rwa [← h, List.take_length] at this
theorem val_top2 {ps : List Int} {N : Nat} (h : ps.length = N + 2) : val ps = val (ps.take N) + (ps[N] + wB * ps[N + 1]) * pw N := by
  rw [val_top1 (N := N + 1) h, val_take_succ ps N (by omega), pw]
  generalize pw N = P
  generalize val (ps.take N) = V
  generalize ps[N] = a
  generalize ps[N + 1] = b
  grind
theorem guess_ok {ps bs : List Int} {N : Nat} {q r : Int} (hp : WF ps) (hb : WF bs) (h1 : ps.length = N + 2) (h2 : bs.length = N + 1) (hq : 0 ≤ q) (hr : r < bs[N]) (he : q * bs[N] + r = ps[N + 1] * wB + ps[N]) : val ps < (q + 1) * val bs := by
  rw [val_top2 h1, val_top1 h2]
  have l1 := val_lt_pw (hp.take N)
  have l2 := val_nonneg (hb.take N)
  rw [show (ps.take N).length = N by simp; omega] at l1
  have hP := pw_pos N
  generalize pw N = P at *
  generalize val (ps.take N) = V at *
  generalize val (bs.take N) = U at *
  generalize bs[N] = t at *
  generalize ps[N] = a at *
  generalize ps[N + 1] = b at *
  have e1 : a + wB * b + 1 ≤ (q + 1) * t := by rw [Int.add_mul, Int.one_mul, Int.mul_comm wB]; omega
  have e2 := Int.mul_le_mul_of_nonneg_right e1 (Int.le_of_lt hP)
  have e3 : 0 ≤ (q + 1) * U := Int.mul_nonneg (by omega) l2
  rw [Int.mul_add (q + 1), ← Int.mul_assoc]
  rw [Int.add_mul (a + wB * b), Int.one_mul] at e2
  omega

end Go.Proofs.Ytbalcjjeakdjkaa
