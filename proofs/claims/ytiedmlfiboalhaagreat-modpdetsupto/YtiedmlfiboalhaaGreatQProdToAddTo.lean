/-
  QProdToAddTo: Prod, Mulw, Times, Made, Bits, Len2, Trim, ByWord, Cut, AddTo, joined.
-/
import Derived.Test.YtiedmlfiboalhaaGreatQWordsToCarry
import Derived.Shelf.Bits.Mul64
import Derived.Laws.MathBits
import Derived.Lib.TrailingZeros
import Derived.Shelf.Strconv.Itoa0

/- Prod -/
set_option linter.unusedVariables false
namespace Go.Proofs.YtiedmlfiboalhaaGreat

theorem pw_plus : ∀ m n : Nat, pw (m + n) = pw m * pw n
  | 0, n => by simp [pw]
  | m + 1, n => by rw [show m + 1 + n = (m + n) + 1 by omega, pw, pw, pw_plus m n, Int.mul_assoc]
theorem pw_up {m n : Nat} (h : m ≤ n) : pw m ≤ pw n := by
  obtain ⟨k, rfl⟩ : ∃ k, n = m + k := ⟨n - m, by omega⟩
  rw [pw_plus]
  have h1 := pw_pos m
  have h2 := pw_pos k
  have := Int.mul_le_mul_of_nonneg_left (show 1 ≤ pw k by omega) (Int.le_of_lt h1)
  omega
theorem pw_le_val : ∀ {xs : List Int} {n : Nat}, WF xs → wid xs = n + 1 → pw n ≤ val xs
  | [], n, _, h => by simp [wid] at h
  | x :: r, n, hw, h => by
    have h1 := hw.head
    have h2 := val_nonneg hw.tail
    unfold IsW wB at h1
    unfold wid at h
    split at h
    · split at h
      · omega
      · have : n = 0 := by omega
        subst this
        unfold val pw wB
        omega
    · obtain ⟨m, rfl⟩ : ∃ m, n = m + 1 := ⟨n - 1, by omega⟩
      have := pw_le_val (n := m) hw.tail (by omega)
      unfold val pw wB
      omega
theorem wid_len {xs : List Int} (h : WF xs) {n : Nat} (hv : val xs < pw n) : wid xs ≤ n := by
  by_cases q : wid xs ≤ n
  · exact q
  · exfalso
    obtain ⟨m, hm⟩ : ∃ m, wid xs = m + 1 := ⟨wid xs - 1, by omega⟩
    have := pw_le_val h hm
    have := pw_up (show n ≤ m by omega)
    omega
theorem canon_len {xs : List Int} (h : Canon xs) {n : Nat} (hv : val xs < pw n) : xs.length ≤ n := by
  have := wid_len h.1 hv
  rw [h.2] at this
  exact this
theorem WF.rest {xs : List Int} (h : WF xs) (n : Nat) : WF (xs.drop n) := fun x hx => h x (List.mem_of_mem_drop hx)
theorem val_mul_lt {xs ys : List Int} (hx : WF xs) (hy : WF ys) : val xs * val ys < pw (xs.length + ys.length) := by
  rw [pw_plus]
  have h1 := val_lt_pw hx
  have h2 := val_lt_pw hy
  have h3 := val_nonneg hx
  have h4 := val_nonneg hy
  have h5 := Int.mul_le_mul (Int.le_of_lt h1) (Int.le_of_lt h2) h4 (Int.le_trans h3 (Int.le_of_lt h1))
  by_cases q : val ys = 0
  · rw [q]
    have := pw_pos xs.length
    have := pw_pos ys.length
    have := Int.mul_pos (pw_pos xs.length) (pw_pos ys.length)
    omega
  · have := Int.mul_lt_mul_of_pos_right h1 (show 0 < val ys by omega)
    have h6 := Int.mul_le_mul_of_nonneg_left (Int.le_of_lt h2) (Int.le_of_lt (pw_pos xs.length))
    omega
/-- A word's product with a word, and two words more, has two words. -/
theorem word_mul_le {v w : Int} (hv : IsW v) (hw : IsW w) : 0 ≤ v * w ∧ v * w ≤ 340282366920938463426481119284349108225 := by
  unfold IsW wB at hv hw
  refine ⟨Int.mul_nonneg hv.1 hw.1, ?_⟩
  have := Int.mul_le_mul (show v ≤ 18446744073709551615 by omega) (show w ≤ 18446744073709551615 by omega) hw.1 (by omega)
  omega
end Go.Proofs.YtiedmlfiboalhaaGreat

/- Mulw -/
namespace Go.Proofs.YtiedmlfiboalhaaGreat
open Go.RowKit
set_option linter.unusedVariables false

set_option maxHeartbeats 1000000 in
theorem mul64_nat (x y : Nat) (hx : x < 18446744073709551616) (hy : y < 18446744073709551616) (w : World) :
    Calls Tryz.prog 120 #[.int .u64 x, .int .u64 y] w fun e w' => e = .returned (.tuple #[.int .u64 ((x * y / 18446744073709551616 : Nat) : Int), .int .u64 ((x * y % 18446744073709551616 : Nat) : Int)]) ∧ w' = w := by
  obtain ⟨bd, bt, bw, hhi⟩ := Lib.mul64_hi x y hx hy
  have ba := Lib.half_mul_le (a := x / 4294967296) (b := y / 4294967296) (by omega) (by omega)
  have bb := Lib.half_mul_le (a := x / 4294967296) (b := y % 4294967296) (by omega) (by omega)
  have bc := Lib.half_mul_le (a := x % 4294967296) (b := y / 4294967296) (by omega) (by omega)
  have ba' : x / 4294967296 * (y / 4294967296) < 18446744073709551616 := by omega
  have bb' : x / 4294967296 * (y % 4294967296) < 18446744073709551616 := by omega
  have bc' : x % 4294967296 * (y / 4294967296) < 18446744073709551616 := by omega
  have bh1 : x / 4294967296 * (y / 4294967296) + (x / 4294967296 * (y % 4294967296) + x % 4294967296 * (y % 4294967296) / 4294967296) / 4294967296 < 18446744073709551616 := by omega
  have bh : x / 4294967296 * (y / 4294967296) + (x / 4294967296 * (y % 4294967296) + x % 4294967296 * (y % 4294967296) / 4294967296) / 4294967296 + ((x / 4294967296 * (y % 4294967296) + x % 4294967296 * (y % 4294967296) / 4294967296) % 4294967296 + x % 4294967296 * (y / 4294967296)) / 4294967296 < 18446744073709551616 := by omega
  go_enter Tryz.func120, Tryz.ntmps120
  go_wp2
  simp only [Mul64.maskN x hx, Mul64.maskN y hy, Mul64.divN, Mul64.mulN, Mul64.addN, Mul64.wrapN _ bd, Mul64.wrapN _ bb', Mul64.wrapN _ bt, Mul64.maskN _ bt, Mul64.wrapN _ bc', Mul64.wrapN _ bw, Mul64.wrapN _ ba', Mul64.wrapN _ bh1, Mul64.wrapN _ bh, Mul64.wrapM (x * y)]
  rw [hhi]
  go_ret2
  exact ⟨rfl, rfl⟩

theorem mul64_any {x y : Int} (hx : IsW x) (hy : IsW y) :
    ∃ hi lo, IsW hi ∧ IsW lo ∧ lo + wB * hi = x * y ∧
      ∀ w : World, Calls Tryz.prog 120 #[.int .u64 x, .int .u64 y] w fun e w' => e = .returned (.tuple #[.int .u64 hi, .int .u64 lo]) ∧ w' = w := by
  have hle := word_mul_le hx hy
  unfold IsW wB at hx hy
  obtain ⟨X, rfl⟩ := Int.eq_ofNat_of_zero_le hx.1
  obtain ⟨Y, rfl⟩ := Int.eq_ofNat_of_zero_le hy.1
  rw [← Int.natCast_mul] at hle
  refine ⟨((X * Y / 18446744073709551616 : Nat) : Int), ((X * Y % 18446744073709551616 : Nat) : Int), ?_, ?_, ?_, fun w => mul64_nat X Y (by omega) (by omega) w⟩
  · unfold IsW wB; omega
  · unfold IsW wB; omega
  · rw [← Int.natCast_mul]
    unfold wB; omega
end Go.Proofs.YtiedmlfiboalhaaGreat

/- Times -/
namespace Go.Proofs.YtiedmlfiboalhaaGreat
open Go.RowKit
set_option linter.unusedVariables false

end Go.Proofs.YtiedmlfiboalhaaGreat

/- Made -/
namespace Go.Proofs.YtiedmlfiboalhaaGreat
open Go.RowKit

theorem Tryz.infoW : (Tryz.prog.info? 25).map (fun i => (i.zero, i.size, i.bytes)) = some (some (.int .u64 0), 1, 8) := by kernel_rfl
theorem Tryz.sizeW : (Tryz.prog.info? 25).map (·.size) = some 1 := by kernel_rfl

theorem madeCells_words (m : Nat) : madeCells (Value.int .u64 0).cells m = (ws (List.replicate m 0)).toArray := by
  apply Array.ext
  · simp [size_madeCells, ws]
  · intro i h1 h2
    simp [madeCells, ws, Value.cells, Nat.mod_one]

theorem wpList_make_words (w : World) {ops : Array Oper} {rest : List Oper} {o : Oper} {a : Act} {Q : Exit → Act → World → Prop}
    (hg : o.guard = none) (l c : Operand) (hop : o.op = Op.makeSlice 41 l c)
    (L C : Int) (n m : Nat) (hl : a.eval l = .int .i64 L) (hc : a.eval c = .int .i64 C) (hL : L = (n : Int)) (hC : C = (m : Int)) (hnm : n ≤ m) (hm : m ≤ 35184372088832)
    (hK : ∀ w', Row w' w.heap.size (ws (List.replicate m 0)) → Below w.heap.size w w' → Hid (w'.heap.size = w.heap.size + 1) → wpList Tryz.prog ops Q rest (a.put o.dst (.slice (some ⟨w.heap.size, 0, none⟩) n m)) w') :
    wpList Tryz.prog ops Q (o :: rest) a w := by
  refine wpList_plain hg fun K hK' => ?_
  obtain ⟨i, hi, hz, hs, hb⟩ := info_parts Tryz.infoW
  have hrun := run_make (P := Tryz.prog) w 41 25 i (.int .u64 0) Tryz.underlying41 hi hz .i64 .i64 n m (by omega) (by omega) (by rw [hb]; omega) (by omega)
  subst hL
  subst hC
  rw [hs, Nat.mul_one, Int.toNat_natCast, Int.toNat_natCast, madeCells_words] at hrun
  unfold Oper.wp
  simp [execOp, hop, hl, hc, hrun, Result.andThen]
  refine hK' _ _ (hK _ ?_ ((Below.refl _ _).alloc (Nat.le_refl _) _) ?_)
  · unfold Row; exact heap_alloc_new w _
  · unfold Hid; simp

theorem splice_words (N n : Nat) (src : List Int) (h : src.length = n) : splice (ws (List.replicate N 0)) 0 (ws src) = ws (src ++ List.replicate (N - n) 0) := by
  subst h
  simp [splice, ws]

theorem wpList_copy_words (w : World) {ops : Array Oper} {rest : List Oper} {o : Oper} {a : Act} {Q : Exit → Act → World → Prop}
    (hgd : o.guard = none) (d s : Operand) (hop : o.op = .call { callee := .builtin .copy, args := #[d, s], argTypes := #[41, 41] })
    (g N n capD capS : Nat) (sp : Option Addr) (src : List Int) (hrow : Row w g (ws (List.replicate N 0))) (hd : a.eval d = .slice (some ⟨g, 0, none⟩) n capD) (hs : a.eval s = .slice sp n capS)
    (hlen : src.length = n) (hnN : n ≤ N)
    (hsl : src = [] ∨ ∃ b off, sp = some ⟨b, off, none⟩ ∧ b < g ∧ ∀ j (h : j < src.length), w.cell? ⟨b, off + j, none⟩ = some (.int .u64 src[j]))
    (hK : ∀ w', Row w' g (ws (src ++ List.replicate (N - n) 0)) → Below g w w' → wpList Tryz.prog ops Q rest (a.put o.dst (goInt n)) w') :
    wpList Tryz.prog ops Q (o :: rest) a w := by
  refine wpList_copy_splice hgd d s 41 41 hop 25 Tryz.underlying41 Tryz.sizeW _ _ n capD n capS hd hs g 0 (ws (List.replicate N 0)) 25 hrow (ws src) (by simp [length_ws, hlen]) ?_ (by simp [length_ws]; omega) ?_ g w (Below.refl _ _) (Nat.le_refl _) ?_
  · intro hpos
    rcases hsl with rfl | ⟨b, off, hsp, _, hc⟩
    · simp [ws] at hpos
    · refine ⟨rfl, _, hsp, fun j v hj => ?_⟩
      have hj' : j < src.length := by
        have := (List.getElem?_eq_some_iff.1 hj).1
        simpa [length_ws] using this
      have : (ws src)[j]? = some (.int .u64 src[j]) := by simp [ws, hj']
      rw [this] at hj
      rw [← hj]
      have e : (⟨b, off, none⟩ : Addr).add j = ⟨b, off + j, none⟩ := by unfold Addr.add; split <;> simp_all
      rw [e]
      exact hc j hj'
  · intro v hv
    simp only [ws, List.mem_map] at hv
    obtain ⟨x, _, rfl⟩ := hv
    rfl
  · intro w' h1 h2
    have := hK w' (by unfold Row; rw [← splice_words N n src hlen]; exact h1.out) h2
    simpa [length_ws, hlen] using this

/-- A slice cut behind its first n words. -/
theorem Sl.source {B : Nat} {w : World} {a : Option Addr} {xs : List Int} {n : Nat} (hm : xs = [] ∨ ∃ b off, a = some ⟨b, off, none⟩ ∧ b < B ∧ ∀ j (h : j < xs.length), w.cell? ⟨b, off + j, none⟩ = some (.int .u64 xs[j])) :
    xs.take n = [] ∨ ∃ b off, a = some ⟨b, off, none⟩ ∧ b < B ∧ ∀ j (h : j < (xs.take n).length), w.cell? ⟨b, off + j, none⟩ = some (.int .u64 (xs.take n)[j]) := by
  rcases hm with rfl | ⟨b, off, h1, h2, h3⟩
  · exact .inl (by simp)
  · refine .inr ⟨b, off, h1, h2, fun j hj => ?_⟩
    simp only [List.length_take] at hj
    rw [h3 j (by omega)]
    simp
theorem Sl.sourceB {B B' : Nat} {w w' : World} {a : Option Addr} {xs : List Int} (hm : xs = [] ∨ ∃ b off, a = some ⟨b, off, none⟩ ∧ b < B ∧ ∀ j (h : j < xs.length), w.cell? ⟨b, off + j, none⟩ = some (.int .u64 xs[j])) (hb : Below B' w w') (hB : B ≤ B') :
    xs = [] ∨ ∃ b off, a = some ⟨b, off, none⟩ ∧ b < B' ∧ ∀ j (h : j < xs.length), w'.cell? ⟨b, off + j, none⟩ = some (.int .u64 xs[j]) := by
  rcases hm with h | ⟨b, off, h1, h2, h3⟩
  · exact .inl h
  · exact .inr ⟨b, off, h1, by omega, fun j hj => (hb.cell (p := ⟨b, off + j, none⟩) (by show b < B'; omega)).trans (h3 j hj)⟩

set_option maxHeartbeats 800000 in
theorem least_any {w : World} {v : Value} {xs : List Int} (h : Sl w.heap.size w v xs) :
    Calls Tryz.prog 79 #[v] w fun e w' => e = .returned (.slice (some ⟨w.heap.size, 0, none⟩) (wid xs) (wid xs)) ∧ Row w' w.heap.size (ws (lst xs)) ∧ Below w.heap.size w w' ∧ w.heap.size < w'.heap.size := by
  have hs := h
  obtain ⟨hw, a, cap, rfl, hlc, hcm, hm⟩ := h
  have HW1 := width_any hs
  have l1 := wid_le xs
  have HL : Hid ((lst xs).length = wid xs) := length_lst xs
  have hsrc := Sl.source (n := wid xs) hm
  change lst xs = [] ∨ ∃ b off, a = some ⟨b, off, none⟩ ∧ b < w.heap.size ∧ ∀ j (h : j < (lst xs).length), w.cell? ⟨b, off + j, none⟩ = some (.int .u64 (lst xs)[j]) at hsrc
  have HSRC := hid hsrc
  generalize lst xs = L at *
  generalize wid xs = n at *
  clear hm hsrc hs hw
  go_enter Tryz.func79, Tryz.ntmps79
  go_wp2_with fail
  refine HW1.mono ?_
  rintro e w1 ⟨rfl, rfl⟩
  clear HW1
  go_wp2_with (at_make; refine wpList_make_words _ rfl _ _ rfl _ _ n n rfl rfl rfl rfl (Nat.le_refl _) (by omega) ?_)
  intro w2 hrow hb2 hsz2
  have hsrc2 := hid (Sl.sourceB HSRC.out hb2 (Nat.le_refl _))
  have hhs : w1.heap.size < w2.heap.size := by have := hsz2.out; omega
  clear HSRC
  go_wp2_with (refine wpList_copy_words _ rfl (.tmp 9) (.tmp 12) rfl w1.heap.size n n _ _ _ L hrow rfl rfl HL.out (Nat.le_refl _) hsrc2.out ?_)
  intro w3 hrow3 hb3
  have hrow4 : Hid (Row w3 w1.heap.size (ws L)) := by unfold Hid; simpa using hrow3
  clear hrow3 hrow hsrc2
  go_wp2
  go_ret
  exact ⟨rfl, hrow4.out, hb2.trans hb3, Nat.lt_of_lt_of_le hhs hb3.size⟩
end Go.Proofs.YtiedmlfiboalhaaGreat

/- Bits -/
namespace Go.Proofs.YtiedmlfiboalhaaGreat

/-- The number that a list of words is. -/
def vn : List Int → Nat
  | [] => 0
  | x :: r => x.toNat + 2 ^ 64 * vn r
theorem val_vn : ∀ {xs : List Int}, WF xs → val xs = (vn xs : Int)
  | [], _ => rfl
  | x :: r, h => by
    have h1 := h.head
    unfold IsW wB at h1
    rw [val, vn, val_vn h.tail]
    unfold wB
    omega
theorem vn_eq {xs ys : List Int} (hx : WF xs) (hy : WF ys) : vn xs = vn ys ↔ val xs = val ys := by
  rw [val_vn hx, val_vn hy]; omega
theorem toNat_lt {x : Int} (h : IsW x) : x.toNat < 2 ^ 64 := by unfold IsW wB at h; omega
theorem vn_lt : ∀ {xs : List Int}, WF xs → vn xs < 2 ^ (64 * xs.length)
  | [], _ => by simp [vn]
  | x :: r, h => by
    have h1 := toNat_lt h.head
    have h2 := vn_lt h.tail
    rw [vn, List.length_cons, show 64 * (r.length + 1) = 64 + 64 * r.length by omega, Nat.pow_add]
    have := Nat.mul_le_mul_left (2 ^ 64) (Nat.succ_le_of_lt h2)
    rw [Nat.mul_succ] at this
    omega
theorem vn_append : ∀ (xs ys : List Int), vn (xs ++ ys) = vn xs + 2 ^ (64 * xs.length) * vn ys
  | [], ys => by simp [vn]
  | x :: r, ys => by
    rw [List.cons_append, vn, vn, vn_append r ys, List.length_cons, show 64 * (r.length + 1) = 64 + 64 * r.length by omega, Nat.pow_add, Nat.mul_add, Nat.mul_assoc]
    omega
theorem vn_zeros {xs : List Int} (h : ∀ x ∈ xs, x = 0) : vn xs = 0 := by
  induction xs with
  | nil => rfl
  | cons x r ih => rw [vn, h x (by simp), ih (fun y hy => h y (by simp [hy]))]; simp
/-- The length by the top word. -/
theorem bitLen_top {lo top s : Nat} (h : lo < 2 ^ s) (ht : top ≠ 0) : bitLen (lo + 2 ^ s * top) = s + bitLen top := by
  have hp : 0 < 2 ^ s := Nat.two_pow_pos s
  have e : (lo + 2 ^ s * top) / 2 ^ s = top := by
    rw [Nat.add_mul_div_left _ _ hp, Nat.div_eq_of_lt h]; omega
  rw [bitLen_shift _ s (by rw [e]; exact ht), e]
theorem lst_split {xs : List Int} {n : Nat} (hn : wid xs = n + 1) (h : n < xs.length) : lst xs = xs.take n ++ [xs[n]] := by
  unfold lst; rw [hn, List.take_succ_eq_append_getElem h]
theorem wid_top : ∀ {xs : List Int} {n : Nat}, wid xs = n + 1 → ∃ h : n < xs.length, xs[n] ≠ 0
  | [], n, h => by simp [wid] at h
  | x :: r, n, h => by
    unfold wid at h
    split at h
    · split at h
      · cases h
      · have : n = 0 := by omega
        subst this
        exact ⟨by simp, by simpa⟩
    · rename_i hr
      obtain ⟨m, hm⟩ : ∃ m, wid r = m + 1 := ⟨wid r - 1, by omega⟩
      obtain ⟨h1, h2⟩ := wid_top hm
      have : n = m + 1 := by omega
      subst this
      exact ⟨by simpa using h1, by simpa using h2⟩
theorem vn_lst {xs : List Int} (h : WF xs) : vn (lst xs) = vn xs := (vn_eq (canon_lst h).1 h).2 (val_lst xs)
theorem bitLen_words {xs : List Int} (hw : WF xs) {n : Nat} (hn : wid xs = n + 1) (h : n < xs.length) : bitLen (vn xs) = 64 * n + bitLen xs[n].toNat := by
  obtain ⟨_, hne⟩ := wid_top hn
  rw [← vn_lst hw, lst_split hn h, vn_append]
  have hl : (xs.take n).length = n := by simp; omega
  have h1 := vn_lt (hw.take n)
  rw [hl] at h1 ⊢
  have e : vn [xs[n]] = xs[n].toNat := by simp [vn]
  rw [e]
  refine bitLen_top h1 ?_
  have := (hw.get h).1
  omega
theorem wid_zero_vn {xs : List Int} (hw : WF xs) (h : wid xs = 0) : vn xs = 0 := by
  have := wid_zero_val xs h
  rw [val_vn hw] at this; omega
end Go.Proofs.YtiedmlfiboalhaaGreat

/- Len2 -/
namespace Go.Proofs.YtiedmlfiboalhaaGreat
open Go.RowKit

theorem lib_bitLen : ∀ (f v : Nat), v < 2 ^ f → Lib.bitLenAux f v = bitLen v
  | 0, v, h => by simp at h; subst h; rfl
  | f + 1, v, h => by
    unfold Lib.bitLenAux
    split
    · rename_i h0; subst h0; rfl
    · rename_i h0
      rw [lib_bitLen f (v / 2) (by rw [Nat.pow_succ] at h; omega)]
      by_cases h1 : v / 2 = 0
      · have : v = 1 := by omega
        subst this; rfl
      · rw [bitLen_shift v 1 (by simpa using h1)]

def lays129_ren : Go.Shelf.Ren := ⟨fun | 129 => 110 | n => n, fun | 53 => 25 | 3 => 3 | 4 => 4 | 46 => 93 | 5 => 5 | 9 => 9 | n => n, fun | n => n⟩
theorem lays129 : Go.Proofs.Lays.n129 Tryz.prog lays129_ren := {
  mixed := by kernel_rfl
  f129 := Tryz.func110.trans (congrArg some (by kernel_rfl))
  t3 := Tryz.underlying3
  a3 := Tryz.isAgg3
  z3 := Tryz.sizeOf3
  v3 := Tryz.zeroValue3
  t4 := Tryz.underlying4
  a4 := Tryz.isAgg4
  z4 := Tryz.sizeOf4
  v4 := Tryz.zeroValue4
  t5 := Tryz.underlying5
  a5 := Tryz.isAgg5
  z5 := Tryz.sizeOf5
  v5 := Tryz.zeroValue5
  t9 := Tryz.underlying9
  a9 := Tryz.isAgg9
  z9 := Tryz.sizeOf9
  v9 := Tryz.zeroValue9
  t46 := Tryz.underlying93
  a46 := Tryz.isAgg93
  z46 := Tryz.sizeOf93
  v46 := Tryz.zeroValue93
  t53 := Tryz.underlying25
  a53 := Tryz.isAgg25
  z53 := Tryz.sizeOf25
  v53 := Tryz.zeroValue25 }
theorem len64_any {x : Int} (hx : IsW x) (w : World) : Calls Tryz.prog 110 #[.int .u64 x] w fun e w' => e = .returned (.int .i64 (bitLen x.toNat : Int)) ∧ w' = w := by
  have h := toNat_lt hx
  have hb : x ≤ 18446744073709551615 := by unfold IsW wB at hx; omega
  have := Any.bits_Len64 lays129 x w hx.1 hb
  rw [show Lib.bitLen x.toNat = bitLen x.toNat from lib_bitLen 64 _ h] at this
  exact this

theorem bitLen_small {x : Nat} (h : x < 2 ^ 64) : bitLen x ≤ 64 := by
  unfold bitLen
  split
  · omega
  · rename_i h0
    have := (Nat.log2_lt h0).2 h
    omega

set_option maxHeartbeats 800000 in
theorem bitLen_any {B : Nat} {w : World} {v : Value} {xs : List Int} (h : Sl B w v xs) :
    Calls Tryz.prog 97 #[v] w fun e w' => e = .returned (.int .i64 (bitLen (vn xs) : Int)) ∧ w' = w := by
  have hs := h
  obtain ⟨hw, a, cap, rfl, hlc, hcm, hm⟩ := h
  have HW := width_any hs
  have l1 := wid_le xs
  by_cases h0 : wid xs = 0
  · rw [wid_zero_vn hw h0]
    rw [h0] at HW
    have hz : ((0 : Int) == 0) = true := rfl
    go_enter Tryz.func97, Tryz.ntmps97
    go_wp2_with fail
    refine HW.mono ?_
    rintro e w1 ⟨rfl, rfl⟩
    clear HW
    go_wp2
    go_ret
    exact ⟨rfl, rfl⟩
  · obtain ⟨n, hn⟩ : ∃ n, wid xs = n + 1 := ⟨wid xs - 1, by omega⟩
    obtain ⟨hl, hne⟩ := wid_top hn
    rcases hm with e | ⟨b, off, rfl, hb, hc⟩
    · subst e; simp at hl
    have c1 := hc n hl
    have hx := hw.get hl
    have HB : Hid (bitLen (vn xs) = 64 * n + bitLen xs[n].toNat) := bitLen_words hw hn hl
    have hbs := bitLen_small (toNat_lt hx)
    have HLn := hid (len64_any hx w)
    rw [hn] at HW l1
    generalize xs[n] = x at *
    generalize bitLen x.toNat = bx at *
    generalize bitLen (vn xs) = r at *
    have hz : (((n + 1 : Nat) : Int) == 0) = false := by rw [beq_eq_false_iff_ne]; omega
    clear hc hw h0 hn hne hs
    go_enter Tryz.func97, Tryz.ntmps97
    go_wp2_with fail
    refine HW.mono ?_
    rintro e w1 ⟨rfl, rfl⟩
    clear HW
    go_wp2_with fail
    refine HLn.out.mono ?_
    rintro e w2 ⟨rfl, rfl⟩
    go_wp2
    go_ret
    refine ⟨congrArg Ending.returned (congrArg (Value.int IntKind.i64) ?_), rfl⟩
    rw [HB.out]
    omega
end Go.Proofs.YtiedmlfiboalhaaGreat

/- Trim -/
namespace Go.Proofs.YtiedmlfiboalhaaGreat
open Go.RowKit
set_option linter.unusedVariables false

/-- A slice that a call made itself: nil, or at the head of a row from block B on. -/
def Mine (B : Nat) (w : World) (v : Value) (zs : List Int) : Prop :=
  WF zs ∧ ((v = .slice none 0 0 ∧ zs = []) ∨ ∃ g r cap, B ≤ g ∧ zs.length ≤ 35184372088832 ∧ zs.length ≤ cap ∧ (cap = zs.length ∨ (cap = zs.length + r.length ∧ cap ≤ maxLen)) ∧ v = .slice (some ⟨g, 0, none⟩) zs.length cap ∧ Row w g (ws zs ++ r))
theorem Mine.form {B : Nat} {w : World} {v : Value} {zs : List Int} (h : Mine B w v zs) : ∃ a cap, v = .slice a zs.length cap := by
  obtain ⟨_, ⟨h1, h2⟩ | ⟨g, r, cap, _, _, _, _, h1, _⟩⟩ := h
  · subst h2; exact ⟨none, 0, h1⟩
  · exact ⟨_, _, h1⟩
theorem Mine.sl {B : Nat} {w : World} {v : Value} {zs : List Int} (h : Mine B w v zs) : Sl w.heap.size w v zs := by
  obtain ⟨hw, ⟨h1, h2⟩ | ⟨g, r, cap, h1, h2, h3, h4, h5, h6⟩⟩ := h
  · subst h1 h2; exact Sl.nilAt w
  · subst h5
    exact ⟨hw, _, cap, rfl, h3, h2, .inr ⟨g, 0, rfl, h6.lt, fun j hj => by rw [Nat.zero_add]; exact h6.word hj⟩⟩
theorem Mine.nil (B : Nat) (w : World) : Mine B w (.slice none 0 0) [] := ⟨WF.nil, .inl ⟨rfl, rfl⟩⟩
theorem Mine.mono {B B' : Nat} {w : World} {v : Value} {zs : List Int} (h : Mine B w v zs) (hB : B' ≤ B) : Mine B' w v zs := by
  obtain ⟨hw, h | ⟨g, r, cap, h1, h2⟩⟩ := h
  · exact ⟨hw, .inl h⟩
  · exact ⟨hw, .inr ⟨g, r, cap, by omega, h2⟩⟩
theorem Mine.below {B : Nat} {w w' : World} {v : Value} {zs : List Int} (h : Mine B w v zs) (hb : Below w.heap.size w w') : Mine B w' v zs := by
  obtain ⟨hw, h | ⟨g, r, cap, h1, h2, h3, h4, h5, h6⟩⟩ := h
  · exact ⟨hw, .inl h⟩
  · exact ⟨hw, .inr ⟨g, r, cap, h1, h2, h3, h4, h5, h6.below hb h6.lt⟩⟩

end Go.Proofs.YtiedmlfiboalhaaGreat

/- ByWord -/
namespace Go.Proofs.YtiedmlfiboalhaaGreat
open Go.RowKit
set_option linter.unusedVariables false

/-- What a call answers that makes a number: a row of its own, in least form. -/
def Makes (w : World) (s : Int) (e : Ending) (w' : World) : Prop :=
  ∃ zs r, e = .returned r ∧ Mine w.heap.size w' r zs ∧ Canon zs ∧ val zs = s ∧ Below w.heap.size w w'

end Go.Proofs.YtiedmlfiboalhaaGreat

/- Cut -/
namespace Go.Proofs.YtiedmlfiboalhaaGreat
open Go.RowKit
set_option linter.unusedVariables false

theorem Sl.taken {B : Nat} {w : World} {a : Option Addr} {len cap : Nat} {xs : List Int} (h : Sl B w (.slice a len cap) xs) {n : Nat} (hn : n ≤ xs.length) : Sl B w (.slice a n n) (xs.take n) := by
  obtain ⟨hw, a', cap', he, hlc, hcm, hm⟩ := h
  simp only [Value.slice.injEq] at he
  obtain ⟨rfl, rfl, rfl⟩ := he
  have e : (xs.take n).length = n := by simp; omega
  exact ⟨hw.take n, a, n, by rw [e], by omega, by omega, Sl.source hm⟩
theorem Sl.dropped {B : Nat} {w : World} {b off : Nat} {len cap : Nat} {xs : List Int} (h : Sl B w (.slice (some ⟨b, off, none⟩) len cap) xs) {n : Nat} (hn : n ≤ xs.length) : Sl B w (.slice (some ⟨b, off + n, none⟩) (len - n) (len - n)) (xs.drop n) := by
  obtain ⟨hw, a', cap', he, hlc, hcm, hm⟩ := h
  simp only [Value.slice.injEq] at he
  obtain ⟨rfl, rfl, rfl⟩ := he
  have e : (xs.drop n).length = xs.length - n := by simp
  refine ⟨hw.rest n, _, _, by rw [e], by omega, by omega, ?_⟩
  rcases hm with rfl | ⟨b', off', h1, h2, h3⟩
  · exact .inl (by simp)
  · simp only [Option.some.injEq, Addr.mk.injEq, and_true] at h1
    obtain ⟨rfl, rfl⟩ := h1
    refine .inr ⟨b, off + n, rfl, h2, fun j hj => ?_⟩
    rw [e] at hj
    rw [Nat.add_assoc, h3 (n + j) (by omega)]
    simp
theorem Sl.none {B : Nat} {w : World} (a : Option Addr) (xs : List Int) (h : xs = []) : Sl B w (.slice a 0 0) xs := by
  subst h
  exact ⟨WF.nil, a, 0, rfl, Nat.le_refl _, Nat.zero_le _, .inl rfl⟩

end Go.Proofs.YtiedmlfiboalhaaGreat

/- AddTo -/
namespace Go.Proofs.YtiedmlfiboalhaaGreat
open Go.RowKit

set_option maxHeartbeats 800000 in
theorem addTo_any {g : Nat} {w : World} {u : Value} {zs0 ys : List Int} {r : List Value} {cap : Nat} (hz0 : WF zs0) (hrow : Row w g (ws zs0 ++ r)) (hlz : zs0.length ≤ 35184372088832) (hy : Sl g w u ys) (hl : ys.length ≤ zs0.length) :
    Calls Tryz.prog 111 #[.slice (some ⟨g, 0, none⟩) zs0.length cap, u] w fun e w' =>
      ∃ zs c, e = .returned (.int .u64 c) ∧ zs.length = zs0.length ∧ WF zs ∧ 0 ≤ c ∧ c ≤ 1 ∧ val zs + pw zs0.length * c = val zs0 + val ys ∧ Row w' g (ws zs ++ r) ∧ Below g w w' := by
  obtain ⟨hwy, a, capy, rfl, hlc, hcm, hm⟩ := hy
  have HV0 : Hid (val zs0 + pw 0 * 0 = val zs0 + val (ys.take 0)) := by unfold Hid; simp [val]
  have HTL : Hid (ys.take ys.length = ys) := by unfold Hid; simp
  obtain ⟨m, hmz⟩ : ∃ m, m = zs0.length := ⟨_, rfl⟩
  obtain ⟨n, hny⟩ : ∃ n, n = ys.length := ⟨_, rfl⟩
  rw [← hmz] at hl hlz
  rw [← hny] at hl hlc HTL
  rw [← hmz, ← hny]
  have HM : Hid (m = zs0.length) := hmz
  have HN : Hid (n = ys.length) := hny
  clear hmz hny
  go_enter Tryz.func111, Tryz.ntmps111
  go_wp2_with fail
  go_loopw [5, 10] (fun c i wr => ∃ (k : Nat) (zs : List Int) (cc : Int), k ≤ n ∧ i = .int .i64 k ∧ c = .int .u64 cc ∧ 0 ≤ cc ∧ cc ≤ 1 ∧ Hid (zs.length = m) ∧ WF zs ∧ Hid (val zs + pw k * cc = val zs0 + val (ys.take k)) ∧ Row wr g (ws zs ++ r) ∧ Below g w wr) (fun _ i _ => n - (intOf i).toNat)
  case atStart => exact ⟨0, zs0, 0, Nat.zero_le _, rfl, rfl, by omega, by omega, HM.out.symm, hz0, HV0, hrow, Below.refl _ _⟩
  case round =>
    obtain ⟨k, zs, cc, hk, rfl, rfl, hc0, hc1, HL, hwz, HV, hr, hb⟩ := hrel
    by_cases hlt : k < n
    · have hk1 : k < zs.length := by have := HL.out; omega
      have hk2 : k < ys.length := by have := HN.out; omega
      rcases hm with e | ⟨b, off, rfl, hbg, hcy⟩
      · subst e; simp at hk2
      have c1 : wr.cell? ⟨g, k, none⟩ = some (.int .u64 zs[k]) := hr.word hk1
      have c2 : wr.cell? ⟨b, off + k, none⟩ = some (.int .u64 ys[k]) := (hb.cell (p := ⟨b, off + k, none⟩) hbg).trans (hcy k hk2)
      have cf : wr.frozen? ⟨g, k, none⟩ = false := hr.frozen k
      obtain ⟨s, d, hs, hd0, hd1, hsum, hadd⟩ := add64_run (hwz.get hk1) (hwy.get hk2) hc0 hc1
      have HV' : Hid (val (zs.set k s) + pw (k + 1) * d = val zs0 + val (ys.take (k + 1))) := carry_step hk1 HV.out (val_take_succ ys k hk2) hsum rfl
      have hwz' : WF (zs.set k s) := hwz.set k hs
      have HR := hr.setWord hk1 s
      have HB := hb.setCell (p := ⟨g, k, none⟩) (Nat.le_refl _) (.int .u64 s)
      clear hsum hs
      generalize zs[k] = x at *
      generalize ys[k] = y at *
      have HL' : Hid ((zs.set k s).length = m) := by unfold Hid; rw [List.length_set]; exact HL.out
      generalize zs.set k s = zs' at *
      clear hcy hr hb hwz HV hrow HL
      go_wp2_with fail
      have i0 : (0 : Int) ≤ (k : Int) := by omega
      have i1 : (k : Int) < (n : Int) := by omega
      have i2 : (k : Int) < (m : Int) := by omega
      go_region
      go_wp2
      go_roundw
      case rel => exact ⟨k + 1, zs', d, by omega, by go_num, rfl, hd0, hd1, HL', hwz', HV', HR.drewN 1, HB.drew⟩
      case measure => simp [intOf]; omega
    · obtain rfl : k = n := by omega
      rw [HTL.out] at HV
      clear hm hrow hz0 hwy HTL HV0
      go_wp2_with fail
      go_loopw [5, 7] (fun c i wr => ∃ (j : Nat) (zs : List Int) (cc : Int), j ≤ m ∧ i = .int .i64 j ∧ c = .int .u64 cc ∧ 0 ≤ cc ∧ cc ≤ 1 ∧ Hid (zs.length = m) ∧ WF zs ∧ Hid (val zs + pw j * cc = val zs0 + val ys) ∧ Row wr g (ws zs ++ r) ∧ Below g w wr) (fun _ i _ => m - (intOf i).toNat)
      case atStart => exact ⟨k, zs, cc, hl, rfl, rfl, hc0, hc1, HL, hwz, HV, hr, hb⟩
      case round =>
        clear HV hr hb hwz HL hc0 hc1
        obtain ⟨j, zs, cc, hj, rfl, rfl, hc0, hc1, HL, hwz, HV, hr, hb⟩ := hrel
        by_cases hcc : cc = 0
        · have hcb : (cc != 0) = false := by simp [hcc]
          have HCC : Hid (cc = 0) := hcc
          clear hcc
          go_wp2
          go_ret
          refine ⟨zs, cc, rfl, HL.out, hwz, hc0, hc1, ?_, hr, hb⟩
          have := HV.out
          rw [HCC.out] at this ⊢
          simpa using this
        · have hcb : (cc != 0) = true := by simp [hcc]
          clear hcc
          by_cases hlt : j < m
          · have hk1 : j < zs.length := by have := HL.out; omega
            have c1 : wr.cell? ⟨g, j, none⟩ = some (.int .u64 zs[j]) := hr.word hk1
            have cf : wr.frozen? ⟨g, j, none⟩ = false := hr.frozen j
            obtain ⟨s, d, hs, hd0, hd1, hsum, hadd⟩ := add64_run (hwz.get hk1) (show IsW 0 by unfold IsW wB; omega) hc0 hc1
            have HV' : Hid (val (zs.set j s) + pw (j + 1) * d = val zs0 + val ys) := carry_step hk1 HV.out (y := 0) (by simp) hsum rfl
            have hwz' : WF (zs.set j s) := hwz.set j hs
            have HR := hr.setWord hk1 s
            have HB := hb.setCell (p := ⟨g, j, none⟩) (Nat.le_refl _) (.int .u64 s)
            clear hsum hs
            generalize zs[j] = x at *
            have HL' : Hid ((zs.set j s).length = m) := by unfold Hid; rw [List.length_set]; exact HL.out
            generalize zs.set j s = zs' at *
            clear hr hb hwz HV HL
            have i0 : (0 : Int) ≤ (j : Int) := by omega
            have i2 : (j : Int) < (m : Int) := by omega
            go_wp2
            go_roundw
            case rel => exact ⟨j + 1, zs', d, by omega, by go_num, rfl, hd0, hd1, HL', hwz', HV', HR, HB⟩
            case measure => simp [intOf]; omega
          · obtain rfl : j = m := by omega
            go_wp2
            go_ret
            exact ⟨zs, cc, rfl, HL.out, hwz, hc0, hc1, HV.out, hr, hb⟩
end Go.Proofs.YtiedmlfiboalhaaGreat
