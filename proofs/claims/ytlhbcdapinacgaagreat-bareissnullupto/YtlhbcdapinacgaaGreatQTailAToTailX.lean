/-
  QTailAToTailX: TailA, Crt6, CrtLPure, Fit8, Chain8, IsChain8, Bw8, TailX, joined.
-/
import Derived.Test.YtlhbcdapinacgaaGreatQFil9ToDot9
import Derived.Test.YtlhbcdapinacgaaGreatQGcdAllToCrtPure
import Derived.Test.YtlhbcdapinacgaaGreatQLaw9ToMWord
import Derived.Test.YtlhbcdapinacgaaGreatQAlikeToOpenV8
import Derived.Test.YtlhbcdapinacgaaGreatQZOnesToZCmp
import Derived.Test.YtlhbcdapinacgaaGreatQExact0ToZlaw0
import Derived.Deep.LoopGhost
import Derived.Test.YtlhbcdapinacgaaGreatQMulAllToOnes
import Derived.RangeFuncNested
import Derived.RangeFuncBound
import Derived.RangeFuncCalls
import Derived.RangeFuncLeaves
import Derived.RangeFuncBox
import Derived.Shelf.Abstract
import Derived.Shelf.RegionOpen
import Derived.WalkKit
import Derived.OwnWalkIn
import Derived.TacticsInMore
import Derived.LoopNIn
import Derived.LoopIn

/- TailA -/
namespace Go.Proofs.YtlhbcdapinacgaaGreat
open Go.RowKit
set_option linter.unusedVariables false

section
variable {P : Program} {ops : Array Oper} {Q : Exit → Act → World → Prop} {md : Region.Mode} {S : World → Prop} {n : Nat}

theorem wpAnyT_firstA {i : Nat} {oi : Oper} {v : Value} (hi : ops[i]? = some oi) (hsel : ∀ (j : Nat) (o : Oper) cs b, ops[j]? = some o → o.op ≠ .select cs b)
    (hQ : ∀ c a w, Q (.panic c) (a.put oi.dst v) w → Q (.panic c) a w)
    (hn : ops.size ≤ n) :
    ∀ (fuel : Nat) (listed : Array Bool) (a : Act) (w : World),
      (∀ j oj, ops[j]? = some oj → j ≠ i → listed.getD j true = false → (∀ e ∈ oj.after, Region.binds md e = true → e.on ≠ i) → oi.apart ops oj = true) →
      i ∈ Region.ready md ops listed → YieldsIf P ops S oi v a → S w →
      wpAnyT P md ops Q S n fuel (listed.setIfInBounds i true) (a.put oi.dst v) w → wpAnyT P md ops Q S n (fuel + 1) listed a w := by
  intro fuel
  induction fuel with
  | zero =>
    intro listed a w _ hr hy hS H
    refine ⟨fun h => (by rw [h] at hr; cases hr), fun j hj => ?_⟩
    by_cases hji : j = i
    · subst hji; exact hy.wpOp hi hS ⟨fun _ => hS, H⟩
    · have := ready_mono hj hji
      rw [H.1] at this
      cases this
  | succ fuel ih =>
    intro listed a w hfree hr hy hS H
    refine ⟨fun h => (by rw [h] at hr; cases hr), fun j hj => ?_⟩
    have hjn : j < n := by
      obtain ⟨_, oj, hoj, _⟩ := mem_ready.1 hj
      exact Nat.lt_of_lt_of_le (Array.getElem?_eq_some_iff.1 hoj).1 hn
    by_cases hji : j = i
    · subst hji; exact hy.wpOp hi hS ⟨fun _ => hS, H⟩
    · have h1 := H.2 j (ready_mono hj hji)
      obtain ⟨hjun, oj, hoj, hall⟩ := mem_ready.1 hj
      have hnot : ∀ e ∈ oj.after, Region.binds md e = true → e.on ≠ i := fun e he hb heq => by
        have h1 := hall e he hb
        have h0 := (mem_ready.1 hr).1
        rw [heq] at h1
        rcases Nat.lt_or_ge i listed.size with h' | h'
        · simp [h'] at h0 h1; rw [h0] at h1; cases h1
        · simp [Array.getElem?_eq_none h'] at h1
      have h2 := wpOp_putIf hoj (hfree j oj hoj hji hjun hnot) (fun cs b => hsel i oi cs b hi) (fun cs b => hsel j oj cs b hoj) hQ hy h1
      have hfree' : ∀ k ok, ops[k]? = some ok → k ≠ i → (listed.setIfInBounds j true).getD k true = false →
          (∀ e ∈ ok.after, Region.binds md e = true → e.on ≠ i) → oi.apart ops ok = true := fun k ok hk hki hun hno => by
        refine hfree k ok hk hki ?_ hno
        by_cases hjk : j = k
        · subst hjk; exact hjun
        · rw [getD_set_ne true hjk] at hun; exact hun
      refine wpOp_mono (fun a' w' h3 => ⟨fun _ => h3.2.1 hjn, ih (listed.setIfInBounds j true) a' w' hfree' (ready_mono hr (Ne.symm hji)) h3.1 (h3.2.1 hjn) ?_⟩) h2
      rw [Array.setIfInBounds_comm _ _ hji]
      exact h3.2.2

theorem wpAnyT_takeA {i : Nat} {oi : Oper} {v : Value} {fuel : Nat} {listed : Array Bool} {a : Act} {w : World} (hi : ops[i]? = some oi)
    (hok : (Region.noSelect ops && Region.free md ops listed i && (Region.ready md ops listed).contains i && decide (ops.size ≤ n)) = true)
    (hQ : ∀ c a w, Q (.panic c) (a.put oi.dst v) w → Q (.panic c) a w) (hy : YieldsIf P ops S oi v a) (hS : S w)
    (h : wpAnyT P md ops Q S n fuel (listed.setIfInBounds i true) (a.put oi.dst v) w) : wpAnyT P md ops Q S n (fuel + 1) listed a w := by
  simp only [Bool.and_eq_true, decide_eq_true_eq] at hok
  obtain ⟨⟨⟨h1, h2⟩, h3⟩, h4⟩ := hok
  exact wpAnyT_firstA hi (Region.noSelect_spec h1) hQ h4 fuel listed a w (Region.free_spec hi h2) (by simpa using h3) hy hS h
end
end Go.Proofs.YtlhbcdapinacgaaGreat

/- Crt6 -/
namespace Go.Proofs.YtlhbcdapinacgaaGreat
open Go.RowKit
set_option linter.unusedVariables false

theorem alloc6 (w : World) (o1 o2 o3 o4 o5 o6 : Obj) : Below w.heap.size w ((((((w.alloc o1).alloc o2).alloc o3).alloc o4).alloc o5).alloc o6) ∧ ((((((w.alloc o1).alloc o2).alloc o3).alloc o4).alloc o5).alloc o6).heap.size = w.heap.size + 1 + 1 + 1 + 1 + 1 + 1 := ⟨((((((Below.refl _ _).alloc (Nat.le_refl _) _).alloc (by simp) _).alloc (by simp; omega) _).alloc (by simp; omega) _).alloc (by simp; omega) _).alloc (by simp; omega) _, by simp⟩
theorem crt_fit {b d v : Int} {kb kd : Nat} (hb : (b.natAbs : Int) < pw kb) (hd : (d.natAbs : Int) < pw kd) (hv : v.natAbs ≤ d.natAbs) : ((((b * v).natAbs : Int)).natAbs : Int) < pw (kb + kd) := by
  rw [pw_plus]
  have h1 := pw_pos kb
  have h2 := pw_pos kd
  have e : ((((b * v).natAbs : Int)).natAbs : Int) = (b.natAbs : Int) * (v.natAbs : Int) := by rw [Int.natAbs_natCast, Int.natAbs_mul]; push_cast; rfl
  rw [e]
  have h3 : (b.natAbs : Int) * (v.natAbs : Int) ≤ (b.natAbs : Int) * (d.natAbs : Int) := Int.mul_le_mul_of_nonneg_left (by omega) (by omega)
  have h4 : (b.natAbs : Int) * (d.natAbs : Int) ≤ pw kb * (d.natAbs : Int) := Int.mul_le_mul_of_nonneg_right (by omega) (by omega)
  have h5 : pw kb * (d.natAbs : Int) < pw kb * pw kd := Int.mul_lt_mul_of_pos_left hd h1
  omega
/-- What Crt answers where the remainders go together. -/
def Crted (w : World) (A B S T : Int) (k : Nat) (e : Ending) (w' : World) : Prop := ∃ r m, CrtV A B S T r m ∧ GivesZ2 0 w r m k k e w'

end Go.Proofs.YtlhbcdapinacgaaGreat

/- CrtLPure -/
namespace Go.Proofs.YtlhbcdapinacgaaGreat
open Go.RowKit
set_option linter.unusedVariables false

/-- The least common multiple of all. -/
def lcmL (Ms : List Int) : Int := Ms.foldl lcmv 1
theorem lcmL_next {Ms : List Int} {i : Nat} (h : i < Ms.length) : lcmL (Ms.take (i + 1)) = lcmv (lcmL (Ms.take i)) Ms[i] := by
  unfold lcmL
  rw [List.take_succ_eq_append_getElem h, List.foldl_append]
  rfl
theorem lcmv_dvd (b d : Int) : b ∣ lcmv b d ∧ d ∣ lcmv b d := by
  unfold lcmv
  refine ⟨Int.dvd_natAbs.2 ?_, Int.dvd_natAbs.2 ⟨b.tdiv (Int.gcd b d : Int), Int.mul_comm _ _⟩⟩
  obtain ⟨u, hu⟩ : (Int.gcd b d : Int) ∣ b := Int.gcd_dvd_left ..
  obtain ⟨v, hv⟩ : (Int.gcd b d : Int) ∣ d := Int.gcd_dvd_right ..
  generalize (Int.gcd b d : Int) = g at *
  by_cases h : g = 0
  · subst h; subst hu; simp
  · rw [hu, Int.mul_tdiv_cancel_left _ h, hv]
    exact ⟨v, by grind⟩
theorem lcmv_pos {b d : Int} (hb : b ≠ 0) (hd : d ≠ 0) : 0 < lcmv b d := by
  have h0 : 0 ≤ lcmv b d := by unfold lcmv; omega
  have hn : lcmv b d ≠ 0 := fun e => by
    unfold lcmv at e
    have e2 : b.tdiv (Int.gcd b d : Int) * d = 0 := by omega
    rcases Int.mul_eq_zero.1 e2 with q | q
    · obtain ⟨u, hu⟩ : (Int.gcd b d : Int) ∣ b := Int.gcd_dvd_left ..
      have hg : (Int.gcd b d : Int) ≠ 0 := by
        have := Int.gcd_pos_of_ne_zero_right b hd
        omega
      generalize (Int.gcd b d : Int) = g at *
      rw [hu, Int.mul_tdiv_cancel_left _ hg] at q
      rw [q] at hu
      simp at hu
      exact hb hu
    · exact hd q
  omega
structure CrtL (Rs Ms : List Int) (r m : Int) : Prop where
  em : m = lcmL Ms
  pos : 0 < m
  lo : 0 ≤ r
  hi : r < m
  dm : ∀ j (h : j < Ms.length), Ms[j] ∣ m
  dr : ∀ j (h : j < Ms.length) (h' : j < Rs.length), Ms[j] ∣ r - Rs[j]
theorem crtL_nil : CrtL [] [] 0 1 := ⟨rfl, by omega, by omega, by omega, fun j h => by simp at h, fun j h => by simp at h⟩
theorem CrtL.next {Rs Ms : List Int} {r m r' m' : Int} {i : Nat} (h : CrtL (Rs.take i) (Ms.take i) r m) (hr : i < Rs.length) (hm : i < Ms.length) (h0 : Ms[i] ≠ 0) (hv : CrtV r m Rs[i] Ms[i] r' m') : CrtL (Rs.take (i + 1)) (Ms.take (i + 1)) r' m' := by
  obtain ⟨e1, e2, e3, e4, e5, e6⟩ := h
  have hd := lcmv_dvd m Ms[i]
  rw [← hv.em] at hd
  refine ⟨by rw [lcmL_next hm, ← e1, hv.em], ?_, hv.lo, hv.hi, fun j hj => ?_, fun j hj hj' => ?_⟩
  · rw [hv.em]; exact lcmv_pos (by omega) h0
  · rw [List.getElem_take]
    simp at hj
    by_cases q : j < i
    · have := e5 j (by simp; omega)
      rw [List.getElem_take] at this
      exact Int.dvd_trans this hd.1
    · obtain rfl : j = i := by omega
      exact hd.2
  · rw [List.getElem_take, List.getElem_take]
    simp at hj hj'
    by_cases q : j < i
    · have h1 := e6 j (by simp; omega) (by simp; omega)
      have h2 := e5 j (by simp; omega)
      rw [List.getElem_take] at h1 h2
      rw [List.getElem_take] at h1
      have h3 := Int.dvd_trans h2 hv.d1
      have := Int.dvd_add h3 h1
      rwa [show r' - r + (r - Rs[j]) = r' - Rs[j] by omega] at this
    · obtain rfl : j = i := by omega
      exact hv.d2
/-- The first that does not go together with those ahead of it. -/
def CrtN (Rs Ms : List Int) : Prop := ∃ j, ∃ hr : j < Rs.length, ∃ hm : j < Ms.length, ∃ r m, CrtL (Rs.take j) (Ms.take j) r m ∧ ¬ (Int.gcd m Ms[j] : Int) ∣ Rs[j] - r

/-- A list of integers below block B. -/
def ZlB (B : Nat) (w : World) (v : Value) (zs : List Int) (k : Nat) : Prop :=
  ∃ a c, v = .slice a zs.length c ∧ zs.length ≤ c ∧ zs.length ≤ 1048576 ∧ (zs = [] ∨ ∃ b off, a = some ⟨b, off, none⟩ ∧ b < B ∧ B ≤ w.heap.size ∧ ∀ j (h : j < zs.length), ∃ x y, w.cell? ⟨b, off + 2 * j, none⟩ = some x ∧ w.cell? ⟨b, off + 2 * j + 1, none⟩ = some y ∧ Zi w (.agg #[x, y]) zs[j] k)
theorem Zl.zlb {w : World} {v : Value} {zs : List Int} {k : Nat} (h : Zl w v zs k) : ZlB w.heap.size w v zs k := by
  obtain ⟨a, c, h1, h2, h3, h4⟩ := h
  refine ⟨a, c, h1, h2, h3, ?_⟩
  rcases h4 with h4 | ⟨b, off, h5, h6, h7⟩
  · exact .inl h4
  · exact .inr ⟨b, off, h5, h6, Nat.le_refl _, h7⟩
theorem ZlB.now {B : Nat} {w w' : World} {v : Value} {zs : List Int} {k : Nat} (h : ZlB B w v zs k) (hb : Below w.heap.size w w') : ZlB B w' v zs k := by
  obtain ⟨a, c, h1, h2, h3, h4⟩ := h
  refine ⟨a, c, h1, h2, h3, ?_⟩
  rcases h4 with h4 | ⟨b, off, h5, h6, h6', h7⟩
  · exact .inl h4
  · refine .inr ⟨b, off, h5, h6, Nat.le_trans h6' hb.size, fun j hj => ?_⟩
    obtain ⟨x, y, q1, q2, q3⟩ := h7 j hj
    exact ⟨x, y, (hb.cell (p := ⟨b, off + 2 * j, none⟩) (Nat.lt_of_lt_of_le h6 h6')).trans q1, (hb.cell (p := ⟨b, off + 2 * j + 1, none⟩) (Nat.lt_of_lt_of_le h6 h6')).trans q2, q3.now hb⟩
theorem ZlB.box {B : Nat} {w : World} {v : Value} {zs : List Int} {k : Nat} (h : ZlB B w v zs k) {b' : Nat} {n : Bool} {a' : Option Addr} {l' c' : Nat} (d : Duo w b' (.bool n) (.slice a' l' c')) (hB : B ≤ b') (x y : Value) : ZlB B ((w.setCell ⟨b', 0, none⟩ x).setCell ⟨b', 1, none⟩ y) v zs k := by
  obtain ⟨a, c, h1, h2, h3, h4⟩ := h
  refine ⟨a, c, h1, h2, h3, ?_⟩
  rcases h4 with h4 | ⟨b, off, h5, h6, h6', h7⟩
  · exact .inl h4
  · refine .inr ⟨b, off, h5, h6, by simpa using h6', fun j hj => ?_⟩
    obtain ⟨x0, y0, q1, q2, q3⟩ := h7 j hj
    exact ⟨x0, y0, box_ne (by omega) (box_ne (by omega) q1), box_ne (by omega) (box_ne (by omega) q2), q3.wk (d.wk x y)⟩
theorem ZlB.at {B : Nat} {w : World} {b off l c : Nat} {zs : List Int} {k : Nat} (h : ZlB B w (.slice (some ⟨b, off, none⟩) l c) zs k) {i : Nat} (hi : i < zs.length) : ∃ n, ∃ xs : List Int, ∃ a c, w.cell? ⟨b, off + i * 2, none⟩ = some (.bool n) ∧ w.cell? ⟨b, off + i * 2 + 1, none⟩ = some (.slice a xs.length c) ∧ Zi w (.agg #[.bool n, .slice a xs.length c]) zs[i] k := by
  obtain ⟨a', c', h1, h2, h3, h4⟩ := h
  rcases h4 with h4 | ⟨b', off', h5, h6, h6', h7⟩
  · subst h4; simp at hi
  · simp only [Value.slice.injEq] at h1
    obtain ⟨rfl, -, -⟩ := h1
    simp only [Option.some.injEq, Addr.mk.injEq, and_true] at h5
    obtain ⟨rfl, rfl⟩ := h5
    obtain ⟨x, y, q1, q2, q3⟩ := h7 i hi
    obtain ⟨n, xs, a, c, rfl, rfl⟩ := q3.comp
    rw [Nat.mul_comm 2 i] at q1 q2
    exact ⟨n, xs, a, c, q1, q2, q3⟩
theorem ZlB.form {B : Nat} {w : World} {v : Value} {zs : List Int} {k : Nat} (h : ZlB B w v zs k) : ∃ a c, v = .slice a zs.length c ∧ zs.length ≤ c ∧ zs.length ≤ 1048576 ∧ (zs ≠ [] → ∃ b off, a = some ⟨b, off, none⟩ ∧ b < B) := by
  obtain ⟨a, c, h1, h2, h3, h4⟩ := h
  refine ⟨a, c, h1, h2, h3, fun hne => ?_⟩
  rcases h4 with h4 | ⟨b, off, h5, h6, _⟩
  · exact absurd h4 hne
  · exact ⟨b, off, h5, h6⟩
end Go.Proofs.YtlhbcdapinacgaaGreat

/- Fit8 -/
namespace Go.Proofs.YtlhbcdapinacgaaGreat
open Go.RowKit
set_option linter.unusedVariables false

/-- A list that stands for a fraction. -/
def Fit (zs : List Int) : Prop := 0 < zs.length ∧ ∀ j (h : j < zs.length), 1 ≤ j → 1 ≤ zs[j]
theorem wrapI8 {i : Nat} (h : i ≤ 1048576) : IntKind.i64.wrap ((i : Int) + 1) = ((i + 1 : Nat) : Int) := by rw [wrap_is] <;> omega
theorem sign_pos {w : World} {v : Value} {z : Int} {k : Nat} (h : Zi w v z k) (hz : 1 ≤ z) : Calls Tryz.prog 24 #[v] w fun e w' => e = .returned (.int .i64 1) ∧ Below w.heap.size w w' := by
  have q := sign_z h
  rw [cmpI_gt (by omega)] at q
  exact q
theorem sign_low {w : World} {v : Value} {z : Int} {k : Nat} (h : Zi w v z k) (hz : ¬ 1 ≤ z) : Calls Tryz.prog 24 #[v] w fun e w' => ∃ c, e = .returned (.int .i64 c) ∧ c < 1 ∧ Below w.heap.size w w' := by
  refine (sign_z h).mono fun e w' ⟨h1, h2⟩ => ⟨_, h1, ?_, h2⟩
  rcases cmp_cases z 0 with ⟨_, h⟩ | ⟨_, h⟩ | ⟨_, h⟩ <;> omega
def FitH (w : World) (zs : List Int) (k n : Nat) (v : Value) (g : Nat) (s : Value) (wx : World) : Prop :=
  ∃ i : Nat, s = .int .i64 (i : Int) ∧ 1 ≤ i ∧ i ≤ n + 1 ∧ g = n - i ∧ (∀ j (h : j < zs.length), 1 ≤ j → j < i → 1 ≤ zs[j]) ∧ ZlB w.heap.size wx v zs k ∧ Below w.heap.size w wx
def Fitted (w : World) (zs : List Int) (e : Ending) (w' : World) : Prop := ∃ b : Bool, e = .returned (.bool b) ∧ (b = true ↔ Fit zs) ∧ Below w.heap.size w w'
end Go.Proofs.YtlhbcdapinacgaaGreat

/- Chain8 -/
namespace Go.Proofs.YtlhbcdapinacgaaGreat
open Go.RowKit
set_option linter.unusedVariables false

/-- All of them are at least 1. -/
def AllPos (zs : List Int) : Prop := ∀ j (h : j < zs.length), 1 ≤ zs[j]
def Indexed (w : World) (zs : List Int) (e : Ending) (w' : World) : Prop := ∃ r : Int, e = .returned (.int .i64 r) ∧ ((0 : Int) ≤ r ↔ ¬ AllPos zs) ∧ Below w.heap.size w w'
def IdxH (w : World) (zs : List Int) (k n : Nat) (v : Value) (g : Nat) (s : Value) (wx : World) : Prop :=
  ∃ i : Nat, s = .int .i64 (i : Int) ∧ i ≤ n ∧ g = n - i ∧ (∀ j (h : j < zs.length), j < i → 1 ≤ zs[j]) ∧ ZlB w.heap.size wx v zs k ∧ Below w.heap.size w wx
def Contained (w : World) (zs : List Int) (e : Ending) (w' : World) : Prop := ∃ b : Bool, e = .returned (.bool b) ∧ (b = true ↔ ¬ AllPos zs) ∧ Below w.heap.size w w'
end Go.Proofs.YtlhbcdapinacgaaGreat

/- IsChain8 -/
namespace Go.Proofs.YtlhbcdapinacgaaGreat
open Go.RowKit
set_option linter.unusedVariables false

theorem fit_drop {zs : List Int} : Fit zs ↔ 0 < zs.length ∧ AllPos (zs.drop 1) := by
  unfold Fit AllPos
  refine ⟨fun h => ⟨h.1, fun j hj => ?_⟩, fun h => ⟨h.1, fun j hj h1 => ?_⟩⟩
  · rw [List.getElem_drop]
    rw [List.length_drop] at hj
    exact h.2 (1 + j) (by omega) (by omega)
  · have := h.2 (j - 1) (by rw [List.length_drop]; omega)
    rw [List.getElem_drop] at this
    simpa [show 1 + (j - 1) = j by omega] using this
end Go.Proofs.YtlhbcdapinacgaaGreat

/- Bw8 -/
namespace Go.Proofs.YtlhbcdapinacgaaGreat
open Go.RowKit Go.Shelf
set_option linter.unusedVariables false
attribute [local go_sem] Oper.semAt_some

/-- What has come when k rounds are over. -/
def upto8 {α : Type} (f : Nat → α) (k : Nat) : List α := (List.range k).map f
theorem upto8_succ {α : Type} (f : Nat → α) (k : Nat) : upto8 f (k + 1) = upto8 f k ++ [f k] := by simp [upto8, List.range_succ]
theorem upto8_length {α : Type} (f : Nat → α) (k : Nat) : (upto8 f k).length = k := by simp [upto8]
abbrev bEnc (cs : Nat → Value × Value) {len : Nat} (x : Fin len) : Array Value := #[.int .i64 (x.val : Int), .agg #[(cs x.val).1, (cs x.val).2]]
/-- The k-th that comes: from the end. -/
def bAt {len : Nat} (hp : 0 < len) (k : Nat) : Fin len := ⟨len - 1 - k, by omega⟩
def bIdx (len k : Nat) : Value := if k = len then .int .i64 (-1) else .int .i64 ((len - 1 - k : Nat) : Int)
/-- What a round keeps: what lay below N, and the block of the list's value. -/
def KpU (N Bs : Nat) (W W' : World) : Prop := Below N W W' ∧ W'.heap[Bs]? = W.heap[Bs]?
theorem KpU.trans {N Bs : Nat} {A B C : World} (h : KpU N Bs A B) (k : KpU N Bs B C) : KpU N Bs A C := ⟨h.1.trans k.1, k.2.trans h.2⟩
theorem KpU.refl (N Bs : Nat) (W : World) : KpU N Bs W W := ⟨Below.refl _ _, rfl⟩
theorem KpU.box {N Bs : Nat} {A B : World} (h : KpU N Bs A B) {v : Value} (hc : A.cell? ⟨Bs, 0, none⟩ = some v) : B.cell? ⟨Bs, 0, none⟩ = some v := (World.cell?_of_block h.2).trans hc
theorem KpU.put {N Bs : Nat} {w : World} (hN : N ≤ w.heap.size) (hB : Bs < w.heap.size) (W : World) (l : Nat) (o o' : Obj) (hl : w.heap.size ≤ l) (h : W.heap[l]? = some o) (h1 : o.isCells = false) (h2 : o.isWalk = false) : KpU N Bs W (W.putObj l o') :=
  ⟨belowK_b hN W l o o' hl h h1 h2, (belowK_b (n₀ := w.heap.size) (Nat.le_refl _) W l o o' hl h h1 h2).block Bs hB⟩
end Go.Proofs.YtlhbcdapinacgaaGreat

/- TailX -/
namespace Go.Proofs.YtlhbcdapinacgaaGreat
open Go.RowKit
set_option linter.unusedVariables false

section
variable {P : Program} {ops : Array Oper} {Q : Exit → Act → World → Prop} {md : Region.Mode} {S : World → Prop} {X : List Nat}

def wpAnyX (P : Program) (md : Region.Mode) (ops : Array Oper) (Q : Exit → Act → World → Prop) (S : World → Prop) (X : List Nat) : Nat → Array Bool → Act → World → Prop
  | 0, listed, a, w => Region.ready md ops listed = [] ∧ Q .normal a w
  | fuel + 1, listed, a, w =>
    (Region.ready md ops listed = [] → Q .normal a w) ∧
    ∀ i ∈ Region.ready md ops listed, wpOp P ops Q i (fun a' w' => (X.contains i = false → S w → S w') ∧ wpAnyX P md ops Q S X fuel (listed.setIfInBounds i true) a' w') a w

theorem wpAny_of_X : ∀ (fuel : Nat) (listed : Array Bool) (a : Act) (w : World), wpAnyX P md ops Q S X fuel listed a w → wpAny P md ops Q fuel listed a w
  | 0, _, _, _, h => h
  | fuel + 1, _, _, _, h => ⟨h.1, fun i hi => wpOp_mono (fun a' w' h' => wpAny_of_X fuel _ a' w' h'.2) (h.2 i hi)⟩

/-- S' is what the value rests on: S, or nothing. -/
theorem wpAnyX_first {S' : World → Prop} {i : Nat} {oi : Oper} {v : Value} (hi : ops[i]? = some oi) (hsel : ∀ (j : Nat) (o : Oper) cs b, ops[j]? = some o → o.op ≠ .select cs b)
    (hQ : ∀ c a w, Q (.panic c) (a.put oi.dst v) w → Q (.panic c) a w)
    (hX : ∀ (j : Nat) (w w' : World), (∀ oj, ops[j]? = some oj → ∀ e ∈ oj.after, Region.binds md e = true → e.on ≠ i) → ((X.contains j = false → S w → S w') → S' w → S' w')) :
    ∀ (fuel : Nat) (listed : Array Bool) (a : Act) (w : World),
      (∀ j oj, ops[j]? = some oj → j ≠ i → listed.getD j true = false → (∀ e ∈ oj.after, Region.binds md e = true → e.on ≠ i) → oi.apart ops oj = true) →
      i ∈ Region.ready md ops listed → YieldsIf P ops S' oi v a → S' w →
      wpAnyX P md ops Q S X fuel (listed.setIfInBounds i true) (a.put oi.dst v) w → wpAnyX P md ops Q S X (fuel + 1) listed a w := by
  intro fuel
  induction fuel with
  | zero =>
    intro listed a w _ hr hy hS H
    refine ⟨fun h => (by rw [h] at hr; cases hr), fun j hj => ?_⟩
    by_cases hji : j = i
    · subst hji; exact hy.wpOp hi hS ⟨fun _ h => h, H⟩
    · have := ready_mono hj hji
      rw [H.1] at this
      cases this
  | succ fuel ih =>
    intro listed a w hfree hr hy hS H
    refine ⟨fun h => (by rw [h] at hr; cases hr), fun j hj => ?_⟩
    by_cases hji : j = i
    · subst hji; exact hy.wpOp hi hS ⟨fun _ h => h, H⟩
    · have h1 := H.2 j (ready_mono hj hji)
      obtain ⟨hjun, oj, hoj, hall⟩ := mem_ready.1 hj
      have hnot : ∀ e ∈ oj.after, Region.binds md e = true → e.on ≠ i := fun e he hb heq => by
        have h1 := hall e he hb
        have h0 := (mem_ready.1 hr).1
        rw [heq] at h1
        rcases Nat.lt_or_ge i listed.size with h' | h'
        · simp [h'] at h0 h1; rw [h0] at h1; cases h1
        · simp [Array.getElem?_eq_none h'] at h1
      have h2 := wpOp_putIf hoj (hfree j oj hoj hji hjun hnot) (fun cs b => hsel i oi cs b hi) (fun cs b => hsel j oj cs b hoj) hQ hy h1
      have hfree' : ∀ k ok, ops[k]? = some ok → k ≠ i → (listed.setIfInBounds j true).getD k true = false →
          (∀ e ∈ ok.after, Region.binds md e = true → e.on ≠ i) → oi.apart ops ok = true := fun k ok hk hki hun hno => by
        refine hfree k ok hk hki ?_ hno
        by_cases hjk : j = k
        · subst hjk; exact hjun
        · rw [getD_set_ne true hjk] at hun; exact hun
      refine wpOp_mono (fun a' w' h3 => ⟨h3.2.1, ih (listed.setIfInBounds j true) a' w' hfree' (ready_mono hr (Ne.symm hji)) h3.1 (hX j w w' (fun o' ho' => by rw [hoj] at ho'; cases ho'; exact hnot) h3.2.1 hS) ?_⟩) h2
      rw [Array.setIfInBounds_comm _ _ hji]
      exact h3.2.2
/-- All of X wait for i, by an edge of their own. -/
def waitsB (md : Region.Mode) (ops : Array Oper) (X : List Nat) (i : Nat) : Bool :=
  X.all (fun j => match ops[j]? with
    | some oj => oj.after.toList.any (fun e => Region.binds md e && e.on == i)
    | none => false)
theorem wpAnyX_take {i : Nat} {oi : Oper} {v : Value} {fuel : Nat} {listed : Array Bool} {a : Act} {w : World} (hi : ops[i]? = some oi)
    (hok : (Region.noSelect ops && Region.free md ops listed i && (Region.ready md ops listed).contains i && waitsB md ops X i) = true)
    (hQ : ∀ c a w, Q (.panic c) (a.put oi.dst v) w → Q (.panic c) a w) (hy : YieldsIf P ops S oi v a) (hS : S w)
    (h : wpAnyX P md ops Q S X fuel (listed.setIfInBounds i true) (a.put oi.dst v) w) : wpAnyX P md ops Q S X (fuel + 1) listed a w := by
  simp only [Bool.and_eq_true] at hok
  obtain ⟨⟨⟨h1, h2⟩, h3⟩, h4⟩ := hok
  refine wpAnyX_first hi (Region.noSelect_spec h1) hQ (fun j w w' hn hk hs => hk ?_ hs) fuel listed a w (Region.free_spec hi h2) (by simpa using h3) hy hS h
  cases hc : X.contains j with
  | false => rfl
  | true =>
    unfold waitsB at h4
    have h5 := List.all_eq_true.1 h4 j (by simpa using hc)
    cases ho : ops[j]? with
    | none => rw [ho] at h5; cases h5
    | some oj =>
      rw [ho] at h5
      obtain ⟨e, he, hb⟩ := List.any_eq_true.1 h5
      simp only [Bool.and_eq_true, beq_iff_eq] at hb
      exact absurd hb.2 (hn oj ho e (Array.mem_toList_iff.1 he) hb.1)
/-- A value that rests on no memory. -/
theorem wpAnyX_pure {i : Nat} {oi : Oper} {v : Value} {fuel : Nat} {listed : Array Bool} {a : Act} {w : World} (hi : ops[i]? = some oi)
    (hok : (Region.noSelect ops && Region.free md ops listed i && (Region.ready md ops listed).contains i) = true)
    (hQ : ∀ c a w, Q (.panic c) (a.put oi.dst v) w → Q (.panic c) a w) (hy : YieldsIf P ops (fun _ => True) oi v a)
    (h : wpAnyX P md ops Q S X fuel (listed.setIfInBounds i true) (a.put oi.dst v) w) : wpAnyX P md ops Q S X (fuel + 1) listed a w := by
  simp only [Bool.and_eq_true] at hok
  obtain ⟨⟨h1, h2⟩, h3⟩ := hok
  exact wpAnyX_first (S' := fun _ => True) hi (Region.noSelect_spec h1) hQ (fun _ _ _ _ _ _ => trivial) fuel listed a w (Region.free_spec hi h2) (by simpa using h3) hy trivial h
theorem wpAnyX_one {i : Nat} {o : Oper} {fuel : Nat} {listed : Array Bool} {a : Act} {w : World} (hr : Region.ready md ops listed = [i]) (ho : ops[i]? = some o)
    (h : ∀ K' : Act → World → Prop, Shut (∀ a' w', (X.contains i = false → S w → S w') → wpAnyX P md ops Q S X fuel (listed.setIfInBounds i true) a' w' → K' a' w') → if Region.wanted o (yielded ops a.tmps) = true then Oper.wp P o a w K' Q else K' (a.put o.dst undef) w) :
    wpAnyX P md ops Q S X (fuel + 1) listed a w := by
  refine ⟨fun h0 => (by rw [hr] at h0; cases h0), fun j hj => ?_⟩
  rw [hr] at hj
  obtain rfl := List.mem_singleton.1 hj
  exact wpOp_step ho (fun K' hK => h K' (fun a' w' hS hW => hK a' w' ⟨hS, hW⟩))
theorem wpAnyX_two {i j : Nat} {oi oj : Oper} {fuel : Nat} {listed : Array Bool} {a : Act} {w : World} (hr : Region.ready md ops listed = [i, j]) (hi : ops[i]? = some oi) (hj : ops[j]? = some oj)
    (h1 : ∀ K' : Act → World → Prop, Shut (∀ a' w', (X.contains i = false → S w → S w') → wpAnyX P md ops Q S X fuel (listed.setIfInBounds i true) a' w' → K' a' w') → if Region.wanted oi (yielded ops a.tmps) = true then Oper.wp P oi a w K' Q else K' (a.put oi.dst undef) w)
    (h2 : ∀ K' : Act → World → Prop, Shut (∀ a' w', (X.contains j = false → S w → S w') → wpAnyX P md ops Q S X fuel (listed.setIfInBounds j true) a' w' → K' a' w') → if Region.wanted oj (yielded ops a.tmps) = true then Oper.wp P oj a w K' Q else K' (a.put oj.dst undef) w) :
    wpAnyX P md ops Q S X (fuel + 1) listed a w := by
  refine ⟨fun h0 => (by rw [hr] at h0; cases h0), fun q hq => ?_⟩
  rw [hr] at hq
  rcases List.mem_cons.1 hq with rfl | hq
  · exact wpOp_step hi (fun K' hK => h1 K' (fun a' w' hS hW => hK a' w' ⟨hS, hW⟩))
  · obtain rfl := List.mem_singleton.1 hq
    exact wpOp_step hj (fun K' hK => h2 K' (fun a' w' hS hW => hK a' w' ⟨hS, hW⟩))
theorem wpAnyX_done {listed : Array Bool} {a : Act} {w : World} (hr : Region.ready md ops listed = []) (h : Q .normal a w) :
    ∀ fuel, wpAnyX P md ops Q S X fuel listed a w
  | 0 => ⟨hr, h⟩
  | _ + 1 => ⟨fun _ => h, by rw [hr]; simp⟩
theorem wp_region_X (S : World → Prop) (X : List Nat) {id : Nat} {a : Act} {w : World} (hm : P.follows .mixedOrders = true)
    (h : wpAnyX P .any ops Q S X ops.size (Array.replicate ops.size false) a w.drew) : (Code.region id ops true).wp P Q a w :=
  wp_region_any hm (wpAny_of_X _ _ _ _ h)
end
end Go.Proofs.YtlhbcdapinacgaaGreat
