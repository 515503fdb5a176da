/-
  QCrtLPureToFit8: CrtLPure, Fit8, joined.
-/
import Derived.Test.YtaoammmnpfbdfaaQCrtPureToCrt6
import Derived.Test.YtaoammmnpfbdfaaQAlikeToOpenV8
import Derived.Test.YtaoammmnpfbdfaaQZCmp
import Derived.Test.YtaoammmnpfbdfaaQZModToZDivs
import Derived.Deep.LoopGhost

/- CrtLPure -/
namespace Go.Proofs.Ytaoammmnpfbdfaa
open Go.RowKit
set_option linter.unusedVariables false

/-- The least common multiple of all. -/
def lcmL (Ms : List Int) : Int := Ms.foldl lcmv 1
theorem lcmL_next {Ms : List Int} {i : Nat} (h : i < Ms.length) : lcmL (Ms.take (i + 1)) = lcmv (lcmL (Ms.take i)) Ms[i] := by
  unfold lcmL
  rw [List.take_succ_eq_append_getElem h, List.foldl_append]
  rfl
theorem lcmv_dvd (b d : Int) : b ∣ lcmv b d ∧ d ∣ lcmv b d := by
  unfold lcmv
  refine ⟨Int.dvd_natAbs.2 ?_, Int.dvd_natAbs.2 ⟨b.tdiv (Int.gcd b d : Int), Int.mul_comm _ _⟩⟩
  obtain ⟨u, hu⟩ : (Int.gcd b d : Int) ∣ b := Int.gcd_dvd_left ..
  obtain ⟨v, hv⟩ : (Int.gcd b d : Int) ∣ d := Int.gcd_dvd_right ..
  generalize (Int.gcd b d : Int) = g at *
  by_cases h : g = 0
  · subst h; subst hu; simp
  · rw [hu, Int.mul_tdiv_cancel_left _ h, hv]
    exact ⟨v, by grind⟩
theorem lcmv_pos {b d : Int} (hb : b ≠ 0) (hd : d ≠ 0) : 0 < lcmv b d := by
  have h0 : 0 ≤ lcmv b d := by unfold lcmv; omega
  have hn : lcmv b d ≠ 0 := fun e => by
    unfold lcmv at e
    have e2 : b.tdiv (Int.gcd b d : Int) * d = 0 := by omega
    rcases Int.mul_eq_zero.1 e2 with q | q
    · obtain ⟨u, hu⟩ : (Int.gcd b d : Int) ∣ b := Int.gcd_dvd_left ..
      have hg : (Int.gcd b d : Int) ≠ 0 := by
        have := Int.gcd_pos_of_ne_zero_right b hd
        omega
      generalize (Int.gcd b d : Int) = g at *
      rw [hu, Int.mul_tdiv_cancel_left _ hg] at q
      rw [q] at hu
      simp at hu
      exact hb hu
    · exact hd q
  omega
structure CrtL (Rs Ms : List Int) (r m : Int) : Prop where
  em : m = lcmL Ms
  pos : 0 < m
  lo : 0 ≤ r
  hi : r < m
  dm : ∀ j (h : j < Ms.length), Ms[j] ∣ m
  dr : ∀ j (h : j < Ms.length) (h' : j < Rs.length), Ms[j] ∣ r - Rs[j]
theorem crtL_nil : CrtL [] [] 0 1 := ⟨rfl, by omega, by omega, by omega, fun j h => by simp at h, fun j h => by simp at h⟩
theorem CrtL.next {Rs Ms : List Int} {r m r' m' : Int} {i : Nat} (h : CrtL (Rs.take i) (Ms.take i) r m) (hr : i < Rs.length) (hm : i < Ms.length) (h0 : Ms[i] ≠ 0) (hv : CrtV r m Rs[i] Ms[i] r' m') : CrtL (Rs.take (i + 1)) (Ms.take (i + 1)) r' m' := by
  obtain ⟨e1, e2, e3, e4, e5, e6⟩ := h
  have hd := lcmv_dvd m Ms[i]
  rw [← hv.em] at hd
  refine ⟨by rw [lcmL_next hm, ← e1, hv.em], ?_, hv.lo, hv.hi, fun j hj => ?_, fun j hj hj' => ?_⟩
  · rw [hv.em]; exact lcmv_pos (by omega) h0
  · rw [List.getElem_take]
    simp at hj
    by_cases q : j < i
    · have := e5 j (by simp; omega)
      rw [List.getElem_take] at this
      exact Int.dvd_trans this hd.1
    · obtain rfl : j = i := by omega
      exact hd.2
  · rw [List.getElem_take, List.getElem_take]
    simp at hj hj'
    by_cases q : j < i
    · have h1 := e6 j (by simp; omega) (by simp; omega)
      have h2 := e5 j (by simp; omega)
      rw [List.getElem_take] at h1 h2
      rw [List.getElem_take] at h1
      have h3 := Int.dvd_trans h2 hv.d1
      have := Int.dvd_add h3 h1
      rwa [show r' - r + (r - Rs[j]) = r' - Rs[j] by omega] at this
    · obtain rfl : j = i := by omega
      exact hv.d2
/-- The first that does not go together with those ahead of it. -/
def CrtN (Rs Ms : List Int) : Prop := ∃ j, ∃ hr : j < Rs.length, ∃ hm : j < Ms.length, ∃ r m, CrtL (Rs.take j) (Ms.take j) r m ∧ ¬ (Int.gcd m Ms[j] : Int) ∣ Rs[j] - r

/-- A list of integers below block B. -/
def ZlB (B : Nat) (w : World) (v : Value) (zs : List Int) (k : Nat) : Prop :=
  ∃ a c, v = .slice a zs.length c ∧ zs.length ≤ c ∧ zs.length ≤ 1048576 ∧ (zs = [] ∨ ∃ b off, a = some ⟨b, off, none⟩ ∧ b < B ∧ B ≤ w.heap.size ∧ ∀ j (h : j < zs.length), ∃ x y, w.cell? ⟨b, off + 2 * j, none⟩ = some x ∧ w.cell? ⟨b, off + 2 * j + 1, none⟩ = some y ∧ Zi w (.agg #[x, y]) zs[j] k)
theorem Zl.zlb {w : World} {v : Value} {zs : List Int} {k : Nat} (h : Zl w v zs k) : ZlB w.heap.size w v zs k := by
  obtain ⟨a, c, h1, h2, h3, h4⟩ := h
  refine ⟨a, c, h1, h2, h3, ?_⟩
  rcases h4 with h4 | ⟨b, off, h5, h6, h7⟩
  · exact .inl h4
  · exact .inr ⟨b, off, h5, h6, Nat.le_refl _, h7⟩
theorem ZlB.now {B : Nat} {w w' : World} {v : Value} {zs : List Int} {k : Nat} (h : ZlB B w v zs k) (hb : Below w.heap.size w w') : ZlB B w' v zs k := by
  obtain ⟨a, c, h1, h2, h3, h4⟩ := h
  refine ⟨a, c, h1, h2, h3, ?_⟩
  rcases h4 with h4 | ⟨b, off, h5, h6, h6', h7⟩
  · exact .inl h4
  · refine .inr ⟨b, off, h5, h6, Nat.le_trans h6' hb.size, fun j hj => ?_⟩
    obtain ⟨x, y, q1, q2, q3⟩ := h7 j hj
    exact ⟨x, y, (hb.cell (p := ⟨b, off + 2 * j, none⟩) (Nat.lt_of_lt_of_le h6 h6')).trans q1, (hb.cell (p := ⟨b, off + 2 * j + 1, none⟩) (Nat.lt_of_lt_of_le h6 h6')).trans q2, q3.now hb⟩
theorem ZlB.box {B : Nat} {w : World} {v : Value} {zs : List Int} {k : Nat} (h : ZlB B w v zs k) {b' : Nat} {n : Bool} {a' : Option Addr} {l' c' : Nat} (d : Duo w b' (.bool n) (.slice a' l' c')) (hB : B ≤ b') (x y : Value) : ZlB B ((w.setCell ⟨b', 0, none⟩ x).setCell ⟨b', 1, none⟩ y) v zs k := by
  obtain ⟨a, c, h1, h2, h3, h4⟩ := h
  refine ⟨a, c, h1, h2, h3, ?_⟩
  rcases h4 with h4 | ⟨b, off, h5, h6, h6', h7⟩
  · exact .inl h4
  · refine .inr ⟨b, off, h5, h6, by simpa using h6', fun j hj => ?_⟩
    obtain ⟨x0, y0, q1, q2, q3⟩ := h7 j hj
    exact ⟨x0, y0, box_ne (by omega) (box_ne (by omega) q1), box_ne (by omega) (box_ne (by omega) q2), q3.wk (d.wk x y)⟩
theorem ZlB.at {B : Nat} {w : World} {b off l c : Nat} {zs : List Int} {k : Nat} (h : ZlB B w (.slice (some ⟨b, off, none⟩) l c) zs k) {i : Nat} (hi : i < zs.length) : ∃ n, ∃ xs : List Int, ∃ a c, w.cell? ⟨b, off + i * 2, none⟩ = some (.bool n) ∧ w.cell? ⟨b, off + i * 2 + 1, none⟩ = some (.slice a xs.length c) ∧ Zi w (.agg #[.bool n, .slice a xs.length c]) zs[i] k := by
  obtain ⟨a', c', h1, h2, h3, h4⟩ := h
  rcases h4 with h4 | ⟨b', off', h5, h6, h6', h7⟩
  · subst h4; simp at hi
  · simp only [Value.slice.injEq] at h1
    obtain ⟨rfl, -, -⟩ := h1
    simp only [Option.some.injEq, Addr.mk.injEq, and_true] at h5
    obtain ⟨rfl, rfl⟩ := h5
    obtain ⟨x, y, q1, q2, q3⟩ := h7 i hi
    obtain ⟨n, xs, a, c, rfl, rfl⟩ := q3.comp
    rw [Nat.mul_comm 2 i] at q1 q2
    exact ⟨n, xs, a, c, q1, q2, q3⟩
theorem ZlB.form {B : Nat} {w : World} {v : Value} {zs : List Int} {k : Nat} (h : ZlB B w v zs k) : ∃ a c, v = .slice a zs.length c ∧ zs.length ≤ c ∧ zs.length ≤ 1048576 ∧ (zs ≠ [] → ∃ b off, a = some ⟨b, off, none⟩ ∧ b < B) := by
  obtain ⟨a, c, h1, h2, h3, h4⟩ := h
  refine ⟨a, c, h1, h2, h3, fun hne => ?_⟩
  rcases h4 with h4 | ⟨b, off, h5, h6, _⟩
  · exact absurd h4 hne
  · exact ⟨b, off, h5, h6⟩
end Go.Proofs.Ytaoammmnpfbdfaa

/- Fit8 -/
namespace Go.Proofs.Ytaoammmnpfbdfaa
open Go.RowKit
set_option linter.unusedVariables false

/-- A list that stands for a fraction. -/
def Fit (zs : List Int) : Prop := 0 < zs.length ∧ ∀ j (h : j < zs.length), 1 ≤ j → 1 ≤ zs[j]
theorem wrapI8 {i : Nat} (h : i ≤ 1048576) : IntKind.i64.wrap ((i : Int) + 1) = ((i + 1 : Nat) : Int) := by rw [wrap_is] <;> omega
theorem sign_pos {w : World} {v : Value} {z : Int} {k : Nat} (h : Zi w v z k) (hz : 1 ≤ z) : Calls Try.prog 19 #[v] w fun e w' => e = .returned (.int .i64 1) ∧ Below w.heap.size w w' := by
  have q := sign_z h
  rw [cmpI_gt (by omega)] at q
  exact q
theorem sign_low {w : World} {v : Value} {z : Int} {k : Nat} (h : Zi w v z k) (hz : ¬ 1 ≤ z) : Calls Try.prog 19 #[v] w fun e w' => ∃ c, e = .returned (.int .i64 c) ∧ c < 1 ∧ Below w.heap.size w w' := by
  refine (sign_z h).mono fun e w' ⟨h1, h2⟩ => ⟨_, h1, ?_, h2⟩
  rcases cmp_cases z 0 with ⟨_, h⟩ | ⟨_, h⟩ | ⟨_, h⟩ <;> omega
def FitH (w : World) (zs : List Int) (k n : Nat) (v : Value) (g : Nat) (s : Value) (wx : World) : Prop :=
  ∃ i : Nat, s = .int .i64 (i : Int) ∧ 1 ≤ i ∧ i ≤ n + 1 ∧ g = n - i ∧ (∀ j (h : j < zs.length), 1 ≤ j → j < i → 1 ≤ zs[j]) ∧ ZlB w.heap.size wx v zs k ∧ Below w.heap.size w wx
def Fitted (w : World) (zs : List Int) (e : Ending) (w' : World) : Prop := ∃ b : Bool, e = .returned (.bool b) ∧ (b = true ↔ Fit zs) ∧ Below w.heap.size w w'
set_option maxHeartbeats 3200000 in
set_option maxRecDepth 100000 in
theorem fit8 {w : World} {v : Value} {zs : List Int} {k : Nat} (hv : Zl w v zs k) :
    Calls Try.prog 28 #[v] w (Fitted w zs) := by
  have zv := hid hv.zlb
  obtain ⟨a0, c0, rfl, hc0, hn0, hf0⟩ := zv.out.form
  obtain ⟨n, hn⟩ : ∃ n, zs.length = n := ⟨_, rfl⟩
  rw [hn] at zv hc0 hn0 ⊢
  have HN := hid hn
  have F0 := hid hf0
  clear hv hf0 hn
  have H0 : Hid (FitH w zs k n (.slice a0 n c0) (n - 1) (.int .i64 1) w) := ⟨1, rfl, Nat.le_refl _, by omega, rfl, fun j _ h1 h2 => by omega, zv.out, Below.refl _ _⟩
  clear zv
  go_enter Try.func28, Try.ntmps28
  go_wp2_with fail
  go_loopg [3] (n - 1) (fun g s3 wx => FitH w zs k n (.slice a0 n c0) g s3 wx)
  case atStart => exact H0.out
  case round =>
    clear H0
    obtain ⟨i, rfl, hi1, hin, hg, hpos, lz, hG⟩ := hrel
    have LZ := hid lz
    have G := hid hG
    have HG := hid hg
    have HP := hid hpos
    clear lz hG hg hpos
    by_cases hlt : i < n
    · have hlt' : (i : Int) < (n : Int) := by omega
      obtain ⟨b1, o1, rfl, -⟩ := F0.out (fun e => by have := HN.out; rw [e] at this; simp at this; omega)
      obtain ⟨nf, xf, adf, qf, k0, k1, zf⟩ := LZ.out.at (i := i) (by rw [HN.out]; exact hlt)
      have Zf := hid zf
      clear zf
      have hw := wrapI8 (i := i) (by omega)
      by_cases hp : 1 ≤ zs[i]'(by rw [HN.out]; exact hlt)
      · have HS := hid (sign_pos Zf.out hp)
        have HPP := hid hp
        have q0 : ¬ ((1 : Int) < 1) := by decide
        clear hp Zf
        go_wp2_with fail
        refine HS.out.mono ?_
        rintro e w1 ⟨rfl, b⟩
        have HN1 : Hid (FitH w zs k n (.slice (some ⟨b1, o1, none⟩) n c0) (n - (i + 1)) (.int .i64 ((i + 1 : Nat) : Int)) w1) := ⟨i + 1, rfl, by omega, by omega, rfl, fun j h h1 hj => by
          by_cases q : j < i
          · exact HP.out j h h1 q
          · obtain rfl : j = i := by omega
            exact HPP.out, LZ.out.now b, below_step G.out b⟩
        have HMM : Hid (n - (i + 1) < gk) := by unfold Hid; rw [HG.out]; omega
        clear HS HPP LZ G HG HP k0 k1 b
        go_wp2_with fail
        go_roundg (n - (i + 1))
        case rel => exact HN1.out
        case measure => exact HMM.out
      · have HS := hid (sign_low Zf.out hp)
        have HPP := hid hp
        clear hp Zf
        go_wp2_with fail
        refine HS.out.mono ?_
        rintro e w1 ⟨c, rfl, hc, b⟩
        have FIN : Hid (Fitted w zs (.returned (.bool false)) w1) := ⟨false, rfl, ⟨fun e => (by cases e), fun e => (by have h1 := e.2 i (by rw [HN.out]; exact hlt) hi1; have h2 := HPP.out; omega)⟩, below_step G.out b⟩
        clear HS HPP LZ G HG HP k0 k1 b
        go_wp2
        go_ret
        exact FIN.out
    · have hlt' : ¬ (i : Int) < (n : Int) := by omega
      have FIN : Hid (Fitted w zs (.returned (.bool (decide (0 < n)))) wr) := by
        refine ⟨_, rfl, ?_, G.out⟩
        rw [decide_eq_true_eq]
        refine ⟨fun h => ⟨by have := HN.out; omega, fun j h h1 => HP.out j h h1 (by have := HN.out; omega)⟩, fun h => ?_⟩
        have := h.1
        have := HN.out
        omega
      clear LZ G HG HP
      go_wp2
      go_ret
      exact FIN.out
end Go.Proofs.Ytaoammmnpfbdfaa
