/-
  QBaseToPr12: Base, Open, Pr12, joined.
-/
import Derived.Test.YtonmlmdnjjafhaaRows
import Derived.Test.YtonmlmdnjjafhaaQWords
import Derived.WalkKit
import Derived.WalkSpells
import Derived.WalkLawsBesides
import Derived.Deep.QuietTactic
import Derived.BigQuiet
import Derived.ProofKit
import Derived.SizedLaws
import Derived.ChangeOld
import Derived.OpenShut
import Derived.Below

/- Base -/
namespace Go.Proofs.Ytonmlmdnjjafhaa
open Go.RowKit

theorem hid {p : Prop} (h : p) : Hid p := h

/-- In the world w the slice value v holds the words xs; its memory lies below block B. -/
def Sl (B : Nat) (w : World) (v : Value) (xs : List Int) : Prop :=
  WF xs ∧ ∃ a cap, v = .slice a xs.length cap ∧ xs.length ≤ cap ∧ xs.length ≤ 35184372088832 ∧
    (xs = [] ∨ ∃ b off, a = some ⟨b, off, none⟩ ∧ b < B ∧ ∀ j (h : j < xs.length), w.cell? ⟨b, off + j, none⟩ = some (.int .u64 xs[j]))

theorem Sl.nilAt (w : World) : Sl w.heap.size w (.slice none 0 0) [] := ⟨WF.nil, none, 0, rfl, Nat.le_refl _, Nat.zero_le _, .inl rfl⟩
theorem Sl.mono {B B' : Nat} {w : World} {v : Value} {xs : List Int} (h : Sl B w v xs) (hB : B ≤ B') : Sl B' w v xs := by
  obtain ⟨h1, a, cap, h2, h3, h4, h5⟩ := h
  refine ⟨h1, a, cap, h2, h3, h4, ?_⟩
  rcases h5 with h5 | ⟨b, off, h6, h7, h8⟩
  · exact .inl h5
  · exact .inr ⟨b, off, h6, by omega, h8⟩
theorem Sl.below {B B' : Nat} {w w' : World} {v : Value} {xs : List Int} (h : Sl B w v xs) (hb : Below B' w w') (hB : B ≤ B') : Sl B w' v xs := by
  obtain ⟨h1, a, cap, h2, h3, h4, h5⟩ := h
  refine ⟨h1, a, cap, h2, h3, h4, ?_⟩
  rcases h5 with h5 | ⟨b, off, h6, h7, h8⟩
  · exact .inl h5
  · exact .inr ⟨b, off, h6, h7, fun j hj => (hb.cell (p := ⟨b, off + j, none⟩) (by show b < B'; omega)).trans (h8 j hj)⟩

theorem wrap_is {x : Int} (h0 : -9223372036854775808 ≤ x) (h1 : x ≤ 9223372036854775807) : IntKind.i64.wrap x = x := by rw [IntKind.wrap_i64]; omega
theorem getD_lt {xs : List Int} {j : Nat} (h : j < xs.length) : xs.getD j 0 = xs[j] := by simp [h]

set_option maxHeartbeats 400000 in
theorem width_any {B : Nat} {w : World} {v : Value} {xs : List Int} (h : Sl B w v xs) :
    Calls Try.prog 31 #[v] w fun e w' => e = .returned (.int .i64 (wid xs)) ∧ w' = w := by
  obtain ⟨hw, a, cap, rfl, hlc, hcm, hm⟩ := h
  have HW : Hid (∀ n : Nat, n ≤ xs.length → (∀ j (h : j < xs.length), n ≤ j → xs[j] = 0) → (0 < n → ∀ h' : n - 1 < xs.length, xs[n - 1] ≠ 0) → wid xs = n) := fun n h1 h2 h3 => wid_is h1 h2 h3
  generalize wid xs = W at *
  go_enter Try.func31, Try.ntmps31
  go_wp2
  go_loop [3] (fun i => ∃ n : Nat, n ≤ xs.length ∧ i = .int .i64 n ∧ ∀ j (h : j < xs.length), n ≤ j → xs[j] = 0) (fun i => (intOf i).toNat)
  case atStart => exact ⟨xs.length, Nat.le_refl _, rfl, fun j h h' => by omega⟩
  case round =>
    obtain ⟨n, hn, rfl, hz⟩ := hrel
    have HZ : Hid (∀ j (h : j < xs.length), n ≤ j → xs[j] = 0) := hz
    clear hz
    by_cases h0 : n = 0
    · subst h0
      go_wp2
      go_ret
      exact ⟨by rw [HW.out 0 (by omega) HZ.out (by omega)]; rfl, rfl⟩
    · obtain ⟨k, rfl⟩ : ∃ k, n = k + 1 := ⟨n - 1, by omega⟩
      rcases hm with rfl | ⟨b, off, rfl, hb, hc⟩
      · simp at hn
      · have hk : k < xs.length := by omega
        have hck := hc k hk
        obtain ⟨x, hx⟩ : ∃ x, x = xs[k] := ⟨_, rfl⟩
        rw [← hx] at hck
        have HX : Hid (x = xs[k]) := hx
        clear hx hc h0
        by_cases hx0 : x = 0
        · have ht : (x == 0) = true := by simp [hx0]
          go_wp2
          go_round
          case rel =>
            refine ⟨k, by omega, rfl, fun j h hj => ?_⟩
            by_cases e : j = k
            · subst e; rw [← HX.out]; exact hx0
            · exact HZ.out j h (by omega)
          case measure => simp [intOf]
        · have ht : (x == 0) = false := by simp [hx0]
          go_wp2
          go_ret
          refine ⟨?_, rfl⟩
          rw [HW.out (k + 1) hn HZ.out (fun _ h' => by have := HX.out; simp at h' ⊢; rw [← this]; exact hx0)]
          rfl

theorem order_any (x y : Int) (w : World) :
    Calls Try.prog 53 #[.int .u64 x, .int .u64 y] w fun e w' => e = .returned (.int .i64 (cmpI x y)) ∧ w' = w := by
  rcases Int.lt_trichotomy x y with q | q | q
  · rw [cmpI_lt q]
    go_enter Try.func53, Try.ntmps53
    go_wp2
    go_ret
    exact ⟨rfl, rfl⟩
  · subst q
    rw [cmpI_self]
    go_enter Try.func53, Try.ntmps53
    go_wp2
    go_ret
    exact ⟨rfl, rfl⟩
  · rw [cmpI_gt q]
    have q' : ¬ x < y := by omega
    go_enter Try.func53, Try.ntmps53
    go_wp2
    go_ret
    exact ⟨rfl, rfl⟩

/-- Are two lists one? -/
def same (xs ys : List Int) : Bool := decide (xs = ys)
theorem same_self (xs : List Int) : same xs xs = true := by simp [same]

theorem Sl.drewN {B : Nat} {w : World} {v : Value} {xs : List Int} (h : Sl B w v xs) (n : Nat) : Sl B (w.drewN n) v xs := by
  obtain ⟨h1, a, cap, h2, h3, h4, h5⟩ := h
  refine ⟨h1, a, cap, h2, h3, h4, ?_⟩
  rcases h5 with h5 | ⟨b, off, h6, h7, h8⟩
  · exact .inl h5
  · exact .inr ⟨b, off, h6, h7, fun j hj => by simpa using h8 j hj⟩
end Go.Proofs.Ytonmlmdnjjafhaa

/- Open -/
namespace Go.Proofs.Ytonmlmdnjjafhaa
open Go.ChangeShapes Go.WideShapes Go.ChangeAt Go.RowKit

theorem Try.own : ownKnob Try.prog.godebug = none := by kernel_rfl
theorem Try.laidOut : laidOutB Try.prog = true := by kernel_rfl
theorem Try.cellsW : Try.prog.cellsOf 22 = 1 := by kernel_rfl
theorem Try.bytesW : Try.prog.bytesOf 22 = 8 := by kernel_rfl

theorem word_of_wf {n : Int} (h : (Lit.int .u64 n).wf = true) : IsW n := by
  have h1 : IntKind.u64.min = 0 := rfl
  have h2 : IntKind.u64.max = 18446744073709551615 := rfl
  simp only [Lit.wf, Bool.and_eq_true, decide_eq_true_eq] at h
  unfold IsW wB
  omega

theorem open_words {H : Type} {enc : TypeId × Value → H} {W : World} {a : Option Addr} {len cap : Nat} {d : DataW H} {p : List MemPlace}
    (h0 : DataW.Trod enc Try.prog W 0 (fun _ => true) true 33 (.slice a len cap) d p)
    (hsz : ∀ elems spare, d = .slice elems spare → (elems.length + spare.length) * Try.prog.bytesOf 22 ≤ reachBytes) :
    ∃ xs, Sl W.heap.size W (.slice a len cap) xs ∧ xs.length ≤ 17592186043904 := by
  obtain ⟨fuel, hf⟩ := h0
  rcases open_ints Try.underlying33 Try.underlying22 Try.cellsW hf with ⟨hcs, _⟩ | ⟨x, l, c, zs, hcs, _, hl, hm, hz, hx, hcell, hwz⟩
  · simp [Value.cells] at hcs
    obtain ⟨rfl, rfl, rfl⟩ := hcs
    exact ⟨[], Sl.nilAt W, by simp⟩
  · simp [Value.cells] at hcs
    obtain ⟨rfl, rfl, rfl⟩ := hcs
    simp only [if_true] at hz
    have hd : d = .slice (lits .u64 (zs.take len)) (lits .u64 (zs.drop len)) := congrArg Prod.fst hx
    have hr := hsz _ _ hd
    rw [Try.bytesW] at hr
    simp only [lits, List.length_map, List.length_take, List.length_drop, reachBytes] at hr
    have hlen : (zs.take len).length = len := by simp; omega
    refine ⟨zs.take len, ⟨fun y hy => word_of_wf (hwz y (List.mem_of_mem_take hy)), some x, cap, by rw [hlen], by rw [hlen]; exact hl, by rw [hlen]; omega, ?_⟩, by omega⟩
    by_cases he : len = 0
    · exact .inl (by simp [he])
    · obtain ⟨b, off, spot⟩ := x
      have hc := hcell 0 (by omega)
      have hspot : spot = none := by simpa [Addr.add] using World.cell?_spot hc
      subst hspot
      refine .inr ⟨b, off, rfl, ?_, fun j hj => ?_⟩
      · have := World.block_lt_of_cell? W _ hc
        simpa [Addr.add] using this
      · rw [hlen] at hj
        have hcj := hcell j (by omega)
        have e : (⟨b, off, none⟩ : Addr).add j = ⟨b, off + j, none⟩ := by unfold Addr.add; split <;> simp_all
        rw [e] at hcj
        rw [hcj]
        simp [show j < zs.length by omega]
end Go.Proofs.Ytonmlmdnjjafhaa

/- Pr12 -/
namespace Go.Proofs.Ytonmlmdnjjafhaa

def IsPr (n : Nat) : Prop := 2 ≤ n ∧ ∀ d, d ∣ n → d = 1 ∨ d = n

theorem ispr_odd {n d : Nat} (h1 : 1 < n) (h2 : n % 2 = 1) (hd : ∀ e, 3 ≤ e → e % 2 = 1 → e < d → ¬ e ∣ n) (hn : n < d * d) : IsPr n := by
  refine ⟨h1, fun e he => ?_⟩
  obtain ⟨f, rfl⟩ := he
  by_cases e1 : e = 1
  · exact .inl e1
  · by_cases f1 : f = 1
    · right; subst f1; simp
    · exfalso
      have eo : e % 2 = 1 := by
        rcases Nat.mod_two_eq_zero_or_one e with q | q
        · rw [Nat.mul_mod, q] at h2; simp at h2
        · exact q
      have fo : f % 2 = 1 := by
        rcases Nat.mod_two_eq_zero_or_one f with q | q
        · rw [Nat.mul_mod, q] at h2; simp at h2
        · exact q
      by_cases q : e < d
      · exact hd e (by omega) eo q ⟨f, rfl⟩
      · have : f < d := by
          apply Classical.byContradiction
          intro k
          have := Nat.mul_le_mul (show d ≤ e by omega) (show d ≤ f by omega)
          omega
        exact hd f (by omega) fo this ⟨e, Nat.mul_comm _ _⟩
theorem ispr_all {n d : Nat} (h1 : 2 ≤ n) (hd : ∀ e, 2 ≤ e → e < d → ¬ e ∣ n) (hn : n < d * d) : IsPr n := by
  refine ⟨h1, fun e he => ?_⟩
  obtain ⟨f, rfl⟩ := he
  by_cases e1 : e = 1
  · exact .inl e1
  · by_cases f1 : f = 1
    · right; subst f1; simp
    · exfalso
      have e0 : e ≠ 0 := fun q => by subst q; simp at h1
      have f0 : f ≠ 0 := fun q => by subst q; simp at h1
      by_cases q : e < d
      · exact hd e (by omega) q ⟨f, rfl⟩
      · have : f < d := by
          apply Classical.byContradiction
          intro k
          have := Nat.mul_le_mul (show d ≤ e by omega) (show d ≤ f by omega)
          omega
        exact hd f (by omega) this ⟨e, Nat.mul_comm _ _⟩
theorem not_ispr {n d : Nat} (h1 : 2 ≤ d) (h2 : d * d ≤ n) (h : d ∣ n) : ¬ IsPr n := fun hp => by
  rcases hp.2 d h with q | q
  · omega
  · subst q
    have := Nat.mul_le_mul (Nat.le_refl d) h1
    omega
theorem ispr_even {n : Nat} (h : n % 2 = 0) : IsPr n ↔ n = 2 := by
  refine ⟨fun hp => ?_, fun e => ?_⟩
  · rcases hp.2 2 (Nat.dvd_of_mod_eq_zero h) with q | q <;> omega
  · subst e
    exact ispr_all (d := 2) (by omega) (fun e h1 h2 => by omega) (by omega)
theorem not_ispr_mul {x y : Nat} (hx : 2 ≤ x) (hy : 2 ≤ y) : ¬ IsPr (x * y) := fun hp => by
  rcases hp.2 x ⟨y, rfl⟩ with q | q
  · omega
  · have := Nat.mul_le_mul (Nat.le_refl x) hy
    omega
/-- Euclid's lemma. -/
theorem IsPr.euclid {p a b : Nat} (hp : IsPr p) (h : p ∣ a * b) : p ∣ a ∨ p ∣ b := by
  rcases hp.2 (Nat.gcd p a) (Nat.gcd_dvd_left p a) with q | q
  · right
    exact Nat.Coprime.dvd_of_dvd_mul_left (k := p) (m := a) (n := b) q h
  · left
    rw [← q]
    exact Nat.gcd_dvd_right p a
theorem prod_perm {l m : List Nat} (h : l.Perm m) : l.foldr (· * ·) 1 = m.foldr (· * ·) 1 := by
  induction h with
  | nil => rfl
  | cons x _ ih => simp [ih]
  | swap x y l => simp only [List.foldr_cons]; rw [Nat.mul_left_comm]
  | trans _ _ i1 i2 => rw [i1, i2]
theorem nodup_map_on {α β : Type} {f : α → β} : ∀ {l : List α}, l.Nodup → (∀ x ∈ l, ∀ y ∈ l, f x = f y → x = y) → (l.map f).Nodup
  | [], _, _ => by simp
  | a :: l, h, hi => by
    rw [List.nodup_cons] at h
    rw [List.map_cons, List.nodup_cons]
    refine ⟨fun hm => ?_, nodup_map_on h.2 (fun x hx y hy => hi x (by simp [hx]) y (by simp [hy]))⟩
    obtain ⟨b, hb, e⟩ := List.mem_map.1 hm
    have := hi b (by simp [hb]) a (by simp) e
    exact h.1 (this ▸ hb)
theorem mem_of_full {l m : List Nat} (hl : l.Nodup) (hs : ∀ x ∈ l, x ∈ m) (hn : m.length ≤ l.length) : ∀ x ∈ m, x ∈ l := by
  intro x hx
  apply Classical.byContradiction
  intro hc
  have h1 : (x :: l).Nodup := List.nodup_cons.2 ⟨hc, hl⟩
  have := List.Nodup.length_le_of_subset h1 (fun y hy => by
    rcases List.mem_cons.1 hy with q | q
    · subst q; exact hx
    · exact hs y q)
  simp at this
  omega
theorem mod_prod {p a : Nat} : ∀ l : List Nat, ((l.map fun k => a * k % p).foldr (· * ·) 1) % p = (a ^ l.length * l.foldr (· * ·) 1) % p
  | [] => by simp
  | k :: l => by
    simp only [List.map_cons, List.foldr_cons, List.length_cons]
    rw [Nat.mul_mod, mod_prod l, Nat.mod_mod, ← Nat.mul_mod]
    congr 1
    rw [Nat.pow_succ]
    simp only [Nat.mul_assoc, Nat.mul_left_comm, Nat.mul_comm]
theorem fact_cop {p : Nat} (hp : IsPr p) : ∀ l : List Nat, (∀ x ∈ l, 1 ≤ x ∧ x < p) → ¬ p ∣ l.foldr (· * ·) 1
  | [], _, h => by
    have := Nat.le_of_dvd (by simp) h
    have := hp.1
    simp at *
    omega
  | k :: l, hl, h => by
    rcases hp.euclid h with q | q
    · have h1 := hl k (by simp)
      have := Nat.le_of_dvd h1.1 q
      omega
    · exact fact_cop hp l (fun x hx => hl x (by simp [hx])) q
theorem dvd_sub_of_mod {p x y : Nat} (h : x % p = y % p) (hxy : x ≤ y) : p ∣ y - x := by
  refine ⟨y / p - x / p, ?_⟩
  have h1 := Nat.div_add_mod x p
  have h2 := Nat.div_add_mod y p
  rw [Nat.mul_sub]
  omega
theorem mod_of_dvd_sub {p x y : Nat} (h : p ∣ y - x) (hxy : x ≤ y) : x % p = y % p := by
  obtain ⟨k, hk⟩ := h
  have : y = x + p * k := by omega
  rw [this, Nat.add_mul_mod_self_left]
/-- Fermat: the power p - 1 leaves 1. -/
theorem fermat {p a : Nat} (hp : IsPr p) (ha : ¬ p ∣ a) : a ^ (p - 1) % p = 1 := by
  have h2 := hp.1
  have hmem : ∀ x, x ∈ List.range' 1 (p - 1) ↔ 1 ≤ x ∧ x < p := fun x => by
    rw [List.mem_range'_1]; omega
  have hinj : ∀ x ∈ List.range' 1 (p - 1), ∀ y ∈ List.range' 1 (p - 1), a * x % p = a * y % p → x = y := by
    have key : ∀ x y, 1 ≤ x → y < p → x ≤ y → a * x % p = a * y % p → x = y := fun x y hx hy hxy e => by
      have : p ∣ a * y - a * x := dvd_sub_of_mod e (Nat.mul_le_mul_left a hxy)
      rw [← Nat.mul_sub] at this
      rcases hp.euclid this with q | q
      · exact absurd q ha
      · by_cases z : y - x = 0
        · omega
        · have := Nat.le_of_dvd (by omega) q
          omega
    intro x hx y hy e
    rw [hmem] at hx hy
    rcases Nat.le_total x y with q | q
    · exact key x y hx.1 hy.2 q e
    · exact (key y x hy.1 hx.2 q e.symm).symm
  have hperm : ((List.range' 1 (p - 1)).map fun k => a * k % p).Perm (List.range' 1 (p - 1)) := by
    have n1 : ((List.range' 1 (p - 1)).map fun k => a * k % p).Nodup := nodup_map_on List.nodup_range' hinj
    have hs : ∀ x ∈ ((List.range' 1 (p - 1)).map fun k => a * k % p), x ∈ List.range' 1 (p - 1) := fun x hx => by
      obtain ⟨k, hk, rfl⟩ := List.mem_map.1 hx
      rw [hmem] at hk ⊢
      refine ⟨?_, Nat.mod_lt _ (by omega)⟩
      apply Nat.pos_of_ne_zero
      intro e
      rcases hp.euclid (Nat.dvd_of_mod_eq_zero e) with q | q
      · exact ha q
      · have := Nat.le_of_dvd (by omega) q
        omega
    exact (List.perm_ext_iff_of_nodup n1 List.nodup_range').2 fun x => ⟨hs x, mem_of_full n1 hs (by simp) x⟩
  have e1 := mod_prod (p := p) (a := a) (List.range' 1 (p - 1))
  rw [prod_perm hperm] at e1
  have hc := fact_cop hp (List.range' 1 (p - 1)) (fun x hx => (hmem x).1 hx)
  rw [List.length_range'] at e1
  generalize (List.range' 1 (p - 1)).foldr (· * ·) 1 = F at *
  have hpos : 1 ≤ a ^ (p - 1) := Nat.pos_of_ne_zero fun e => by
    have : a = 0 := (Nat.pow_eq_zero.1 e).1
    exact ha (this ▸ Nat.dvd_zero p)
  have : p ∣ a ^ (p - 1) * F - F := dvd_sub_of_mod e1 (by have := Nat.mul_le_mul_right F hpos; omega)
  rw [show a ^ (p - 1) * F - F = (a ^ (p - 1) - 1) * F by rw [Nat.sub_mul, Nat.one_mul]] at this
  rcases hp.euclid this with q | q
  · have := mod_of_dvd_sub q hpos
    have e : 1 % p = 1 := Nat.mod_eq_of_lt (by omega)
    exact this.symm.trans e
  · exact absurd q hc
theorem fermat_inv {p a : Nat} (hp : IsPr p) (ha : ¬ p ∣ a) : a * (a ^ (p - 2) % p) % p = 1 := by
  have h2 := hp.1
  rw [Nat.mul_mod, Nat.mod_mod, ← Nat.mul_mod, Nat.mul_comm, ← Nat.pow_succ, show (p - 2).succ = p - 1 by omega]
  exact fermat hp ha
end Go.Proofs.Ytonmlmdnjjafhaa
