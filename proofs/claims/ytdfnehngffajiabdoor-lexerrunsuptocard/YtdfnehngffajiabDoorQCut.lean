/-
  Cut: the contracts of split and join.
-/
import Derived.Test.YtdfnehngffajiabDoorQTrimToByWord
namespace Go.Proofs.YtdfnehngffajiabDoor
open Go.RowKit
set_option linter.unusedVariables false

theorem Sl.taken {B : Nat} {w : World} {a : Option Addr} {len cap : Nat} {xs : List Int} (h : Sl B w (.slice a len cap) xs) {n : Nat} (hn : n ≤ xs.length) : Sl B w (.slice a n n) (xs.take n) := by
  obtain ⟨hw, a', cap', he, hlc, hcm, hm⟩ := h
  simp only [Value.slice.injEq] at he
  obtain ⟨rfl, rfl, rfl⟩ := he
  have e : (xs.take n).length = n := by simp; omega
  exact ⟨hw.take n, a, n, by rw [e], by omega, by omega, Sl.source hm⟩
theorem Sl.dropped {B : Nat} {w : World} {b off : Nat} {len cap : Nat} {xs : List Int} (h : Sl B w (.slice (some ⟨b, off, none⟩) len cap) xs) {n : Nat} (hn : n ≤ xs.length) : Sl B w (.slice (some ⟨b, off + n, none⟩) (len - n) (len - n)) (xs.drop n) := by
  obtain ⟨hw, a', cap', he, hlc, hcm, hm⟩ := h
  simp only [Value.slice.injEq] at he
  obtain ⟨rfl, rfl, rfl⟩ := he
  have e : (xs.drop n).length = xs.length - n := by simp
  refine ⟨hw.rest n, _, _, by rw [e], by omega, by omega, ?_⟩
  rcases hm with rfl | ⟨b', off', h1, h2, h3⟩
  · exact .inl (by simp)
  · simp only [Option.some.injEq, Addr.mk.injEq, and_true] at h1
    obtain ⟨rfl, rfl⟩ := h1
    refine .inr ⟨b, off + n, rfl, h2, fun j hj => ?_⟩
    rw [e] at hj
    rw [Nat.add_assoc, h3 (n + j) (by omega)]
    simp
theorem Sl.none {B : Nat} {w : World} (a : Option Addr) (xs : List Int) (h : xs = []) : Sl B w (.slice a 0 0) xs := by
  subst h
  exact ⟨WF.nil, a, 0, rfl, Nat.le_refl _, Nat.zero_le _, .inl rfl⟩

/-- What split answers. -/
def Splits (w : World) (xs : List Int) (n : Nat) (e : Ending) (w' : World) : Prop :=
  ∃ l r, e = .returned (.tuple #[l, r]) ∧ Sl w'.heap.size w' l (xs.take n) ∧ Sl w'.heap.size w' r (xs.drop n) ∧ Below w.heap.size w w'

set_option maxHeartbeats 1600000 in
theorem split_now {w : World} {v : Value} {xs : List Int} (h : Sl w.heap.size w v xs) {n : Nat} (hn : n ≤ 35184372088832) :
    Calls Tryd.prog 60 #[v, .int .i64 (n : Int)] w (Splits w xs n) := by
  have HS := hid h
  obtain ⟨hw, a, cap, rfl, hlc, hcm, hm⟩ := h
  by_cases hle : n ≤ xs.length
  · by_cases hlt : n < xs.length
    · rcases hm with e | ⟨b, off, rfl, hbg, hcc⟩
      · subst e; simp at hlt
      have HT := hid (HS.out.taken hle)
      have HD := hid (HS.out.dropped hle)
      clear hcc HS
      generalize xs.length = L at *
      have hmin : min (n : Int) (L : Int) = (n : Int) := by omega
      go_enter Tryd.func60, Tryd.ntmps60
      go_wp2
      go_quiet (fail)
      go_wp2
      go_ret2
      exact ⟨_, _, rfl, HT.out.drewN nq, HD.out.drewN nq, below_drewN (Below.refl _ _) nq⟩
    · have e : n = xs.length := by omega
      have HT := hid (HS.out.taken (Nat.le_refl _))
      have HX : Hid (xs.take n = xs ∧ xs.drop n = []) := ⟨by rw [e]; simp, by rw [e]; simp⟩
      clear hm HS
      generalize xs.length = L at *
      subst e
      go_enter Tryd.func60, Tryd.ntmps60
      go_wp2
      go_quiet (fail)
      go_wp2
      go_ret2
      exact ⟨_, _, rfl, HT.out.drewN nq, Sl.none _ _ HX.out.2, below_drewN (Below.refl _ _) nq⟩
  · have HT := hid (HS.out.taken (Nat.le_refl _))
    rw [List.take_length] at HT
    have HX : Hid (xs.take n = xs ∧ xs.drop n = []) := ⟨by rw [List.take_of_length_le (by omega)], by rw [List.drop_of_length_le (by omega)]⟩
    clear hm HS
    generalize xs.length = L at *
    have hmin : min (n : Int) (L : Int) = (L : Int) := by omega
    go_enter Tryd.func60, Tryd.ntmps60
    go_wp2
    go_quiet (fail)
    go_wp2
    go_ret2
    refine ⟨_, _, rfl, ?_, Sl.none _ _ HX.out.2, below_drewN (Below.refl _ _) nq⟩
    rw [HX.out.1]
    exact HT.out.drewN nq

theorem ws_splice (zs src : List Int) (o : Nat) : splice (ws zs) o (ws src) = ws (splice zs o src) := by
  unfold splice ws
  simp
theorem wpList_copy_at (w : World) {ops : Array Oper} {rest : List Oper} {o : Oper} {a : Act} {Q : Exit → Act → World → Prop}
    (hgd : o.guard = none) (d s : Operand) (hop : o.op = .call { callee := .builtin .copy, args := #[d, s], argTypes := #[34, 34] })
    (g off : Nat) (dp sp : Option Addr) (dLen dCap sLen sCap : Nat) (zs src : List Int) (hrow : Row w g (ws zs)) (hd : a.eval d = .slice dp dLen dCap) (hs : a.eval s = .slice sp sLen sCap)
    (hlen : src.length = sLen) (hle : sLen ≤ dLen) (hdp : 0 < sLen → dp = some ⟨g, off, none⟩) (hfit : off + sLen ≤ zs.length)
    (hsl : src = [] ∨ ∃ b off, sp = some ⟨b, off, none⟩ ∧ b < g ∧ ∀ j (h : j < src.length), w.cell? ⟨b, off + j, none⟩ = some (.int .u64 src[j]))
    (hK : ∀ w', Hid (Row w' g (ws (splice zs off src))) → Below g w w' → wpList Tryd.prog ops Q rest (a.put o.dst (goInt sLen)) w') :
    wpList Tryd.prog ops Q (o :: rest) a w := by
  have hmin : Nat.min sLen dLen = sLen := Nat.min_eq_left hle
  refine wpList_copy_splice hgd d s 34 34 hop 78 Tryd.underlying34 Tryd.sizeW _ _ dLen dCap sLen sCap hd hs g off (ws zs) 78 hrow (ws src) (by rw [length_ws, hlen, hmin]) ?_ (by rw [length_ws, length_ws, hlen]; exact hfit) ?_ g w (Below.refl _ _) (Nat.le_refl _) ?_
  · intro hpos
    rcases hsl with rfl | ⟨b, so, hsp, _, hc⟩
    · simp [ws] at hpos
    · rw [length_ws, hlen] at hpos
      refine ⟨hdp hpos, _, hsp, fun j v hj => ?_⟩
      have hj' : j < src.length := by
        have := (List.getElem?_eq_some_iff.1 hj).1
        simpa [length_ws] using this
      have : (ws src)[j]? = some (.int .u64 src[j]) := by simp [ws, hj']
      rw [this] at hj
      rw [← hj]
      have e : (⟨b, so, none⟩ : Addr).add j = ⟨b, so + j, none⟩ := by unfold Addr.add; split <;> simp_all
      rw [e]
      exact hc j hj'
  · intro v hv
    simp only [ws, List.mem_map] at hv
    obtain ⟨x, _, rfl⟩ := hv
    rfl
  · intro w' h1 h2
    have := hK w' (by unfold Hid Row; rw [← ws_splice]; exact h1.out) h2
    simpa [length_ws, hlen] using this

theorem splice_low (N : Nat) (xs : List Int) : splice (List.replicate N 0) 0 xs = xs ++ List.replicate (N - xs.length) 0 := by
  simp [splice]
theorem splice_high (n m : Nat) (xs ys : List Int) (hx : xs.length ≤ n) (hy : ys.length = m) : splice (xs ++ List.replicate (n + m - xs.length) 0) n ys = xs ++ List.replicate (n - xs.length) 0 ++ ys := by
  subst hy
  unfold splice
  rw [List.take_append, List.drop_append, List.take_of_length_le hx, List.drop_of_length_le (by omega)]
  simp
  omega

set_option maxHeartbeats 1600000 in
theorem glue_any {w : World} {v u : Value} {xs ys : List Int} (h : Sl w.heap.size w v xs) (h' : Sl w.heap.size w u ys) {n : Nat} (hx : xs.length ≤ n) (hl : n + ys.length ≤ 35184372088832) :
    Calls Tryd.prog 61 #[v, u, .int .i64 (n : Int)] w fun e w' => e = .returned (.slice (some ⟨w.heap.size, 0, none⟩) (n + ys.length) (n + ys.length)) ∧ Row w' w.heap.size (ws (xs ++ List.replicate (n - xs.length) 0 ++ ys)) ∧ Below w.heap.size w w' := by
  obtain ⟨hwx, a, capx, rfl, hlc, hcm, hm⟩ := h
  obtain ⟨hwy, b, capy, rfl, hlc', hcm', hm'⟩ := h'
  have HM := hid hm
  have HM' := hid hm'
  have H1 : Hid (splice (List.replicate (n + ys.length) 0) 0 xs = xs ++ List.replicate (n + ys.length - xs.length) 0) := splice_low _ _
  have H2 : Hid (splice (xs ++ List.replicate (n + ys.length - xs.length) 0) n ys = xs ++ List.replicate (n - xs.length) 0 ++ ys) := splice_high n _ xs ys hx rfl
  have H3 : Hid ((xs ++ List.replicate (n + ys.length - xs.length) 0).length = n + ys.length) := by unfold Hid; simp; omega
  generalize xs ++ List.replicate (n + ys.length - xs.length) 0 = S1 at *
  generalize xs ++ List.replicate (n - xs.length) 0 ++ ys = S2 at *
  obtain ⟨k, hk⟩ : ∃ k, k = xs.length := ⟨_, rfl⟩
  obtain ⟨m, hmm⟩ : ∃ m, m = ys.length := ⟨_, rfl⟩
  rw [← hk] at hx hlc
  rw [← hmm] at hl hlc' H1 H3
  rw [← hk, ← hmm]
  have HK := hid hk
  have HMM := hid hmm
  clear hm hm' hk hmm hwx hwy
  by_cases h0 : m = 0
  · subst h0
    rw [Nat.add_zero] at H1 H3
    simp only [Nat.add_zero]
    go_enter Tryd.func61, Tryd.ntmps61
    go_wp2_with (at_make; refine wpList_make_words _ rfl _ _ rfl _ _ (n) (n) rfl rfl (by omega) (by omega) (Nat.le_refl _) (by omega) ?_)
    intro w2 hrow hb2 hsz2
    have hs1 := hid (Sl.sourceB HM.out hb2 (Nat.le_refl _))
    have HR2 := hid hrow
    have HB2 := hid hb2
    clear hrow hsz2 hb2
    go_wp2_with (refine wpList_copy_at _ rfl (.tmp 13) (.tmp 14) rfl w.heap.size 0 _ _ _ _ _ _ _ xs HR2.out rfl rfl HK.out.symm (by omega) (fun _ => rfl) (by simp; omega) hs1.out ?_)
    intro w3 HR3 hb3
    have HB3 := hid (HB2.out.trans hb3)
    clear hb3 HR2 HB2 hs1
    rw [H1.out] at HR3
    have hs2 := hid (Sl.sourceB HM'.out HB3.out (Nat.le_refl _))
    go_wp2_with (refine wpList_copy_at _ rfl (.tmp 18) (.tmp 19) rfl w.heap.size n _ _ _ _ _ _ _ ys HR3.out rfl rfl HMM.out.symm (by omega) (fun _ => by omega) (by rw [H3.out]; omega) hs2.out ?_)
    intro w4 HR4 hb4
    have HB4 := hid (HB3.out.trans hb4)
    clear hb4 HR3 HB3 hs2
    rw [H2.out] at HR4
    go_wp2
    go_ret
    exact ⟨rfl, HR4.out, HB4.out⟩
  · have hpos : n < n + m := by omega
    clear h0
    go_enter Tryd.func61, Tryd.ntmps61
    go_wp2_with (at_make; refine wpList_make_words _ rfl _ _ rfl _ _ (n + m) (n + m) rfl rfl (by omega) (by omega) (Nat.le_refl _) (by omega) ?_)
    intro w2 hrow hb2 hsz2
    have hs1 := hid (Sl.sourceB HM.out hb2 (Nat.le_refl _))
    have HR2 := hid hrow
    have HB2 := hid hb2
    clear hrow hsz2 hb2
    go_wp2_with (refine wpList_copy_at _ rfl (.tmp 13) (.tmp 14) rfl w.heap.size 0 _ _ _ _ _ _ _ xs HR2.out rfl rfl HK.out.symm (by omega) (fun _ => rfl) (by simp; omega) hs1.out ?_)
    intro w3 HR3 hb3
    have HB3 := hid (HB2.out.trans hb3)
    clear hb3 HR2 HB2 hs1
    rw [H1.out] at HR3
    have hs2 := hid (Sl.sourceB HM'.out HB3.out (Nat.le_refl _))
    go_wp2_with (refine wpList_copy_at _ rfl (.tmp 18) (.tmp 19) rfl w.heap.size n _ _ _ _ _ _ _ ys HR3.out rfl rfl HMM.out.symm (by omega) (fun _ => rfl) (by rw [H3.out]; omega) hs2.out ?_)
    intro w4 HR4 hb4
    have HB4 := hid (HB3.out.trans hb4)
    clear hb4 HR3 HB3 hs2
    rw [H2.out] at HR4
    go_wp2
    go_ret
    exact ⟨rfl, HR4.out, HB4.out⟩
end Go.Proofs.YtdfnehngffajiabDoor
