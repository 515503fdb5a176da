/-
  QSubToZed: Sub, Now, Mul, MulAll, Zed, joined.
-/
import Derived.Test.YtiedmlfiboalhaaGreatQProdToAddTo
import Derived.Test.YtiedmlfiboalhaaGreatQAddToCmp

/- Sub -/
namespace Go.Proofs.YtiedmlfiboalhaaGreat
open Go.RowKit

theorem cmpI_neg {a b : Int} (h : a < b) : cmpI a b < 0 := by rw [cmpI_lt h]; omega
theorem cmpI_nonneg {a b : Int} (h : b ≤ a) : ¬ cmpI a b < 0 := by
  rcases Int.lt_or_eq_of_le h with q | q
  · rw [cmpI_gt q]; omega
  · rw [q, cmpI_self]; omega

/-- What Sub answers where there is something to take off. -/
def Taken (w : World) (s : Int) (k : Nat) (e : Ending) (w' : World) : Prop :=
  ∃ zs cap r, e = .returned (.tuple #[.slice (some ⟨w.heap.size, 0, none⟩) zs.length cap, .int .i64 0]) ∧ Canon zs ∧ val zs = s ∧ zs.length ≤ k ∧ cap = zs.length + r.length ∧ cap ≤ 35184372088832 ∧
    Row w' w.heap.size (ws zs ++ r) ∧ Below w.heap.size w w' ∧ w.heap.size < w'.heap.size

set_option maxHeartbeats 800000 in
theorem sub_yes {w : World} {v u : Value} {xs ys : List Int} (h : Sl w.heap.size w v xs) (h' : Sl w.heap.size w u ys) (hge : val ys ≤ val xs) :
    Calls Tryz.prog 99 #[v, u] w (Taken w (val xs - val ys) (wid xs)) := by
  have hs := h
  have hs' := h'
  obtain ⟨hw, a, cap, rfl, hlc, hcm, hm⟩ := h
  obtain ⟨hw', a', cap', rfl, hlc', hcm', hm'⟩ := h'
  have HC := cmp_any hs hs'
  have hn := cmpI_nonneg hge
  generalize cmpI (val xs) (val ys) = C at *
  have l1 := wid_le xs
  have l2 := wid_le ys
  have HWW : Hid (wid ys ≤ wid xs) := by
    unfold Hid
    by_cases q : wid xs < wid ys
    · have := val_wid_lt hw hw' q; omega
    · omega
  have HL1 : Hid ((lst xs).length = wid xs) := length_lst xs
  have HL2 : Hid ((lst ys).length = wid ys) := length_lst ys
  have HC1 := hid (canon_lst hw)
  have HC2 := hid (canon_lst hw')
  have HV1 := hid (val_lst xs)
  have HV2 := hid (val_lst ys)
  have HS1 := hid hs
  have HS2 := hid hs'
  have hsrc' := Sl.source (n := wid ys) hm'
  change lst ys = [] ∨ ∃ b off, a' = some ⟨b, off, none⟩ ∧ b < w.heap.size ∧ ∀ j (h : j < (lst ys).length), w.cell? ⟨b, off + j, none⟩ = some (.int .u64 (lst ys)[j]) at hsrc'
  have HSR := hid hsrc'
  have HGE := hid hge
  clear hm hm' hw hw' hs hs' hsrc' hge
  go_enter Tryz.func99, Tryz.ntmps99
  go_wp2_with fail
  refine HC.mono ?_
  rintro e w1 ⟨rfl, n, rfl⟩
  clear HC
  go_wp2_with fail
  refine (least_any (w := w.drewN n) (HS1.out.drewN n)).mono ?_
  rintro e w2 ⟨rfl, hrow, hb2, hsz2⟩
  change Row w2 w.heap.size _ at hrow
  change Below w.heap.size _ w2 at hb2
  change w.heap.size < w2.heap.size at hsz2
  have hb02 : Below w.heap.size w w2 := (below_drewN (Below.refl _ _) n).trans hb2
  go_wp2_with fail
  have HW2 := width_any (HS2.out.below hb02 (Nat.le_refl _))
  refine HW2.mono ?_
  rintro e w3 ⟨rfl, rfl⟩
  clear HW2
  have hsl := Sl.sourceB HSR.out hb02 (Nat.le_refl _)
  have hsl2 : Sl w.heap.size w3 (.slice a' (wid ys) cap') (lst ys) := ⟨HC2.out.1, _, cap', by rw [HL2.out], by rw [HL2.out]; omega, by rw [HL2.out]; omega, hsl⟩
  have hT := takeFrom_any (r := []) (cap := wid xs) HC1.out.1 (by simpa using hrow) (by rw [HL1.out]; omega) hsl2 (by rw [HL1.out, HL2.out]; exact HWW.out) (by rw [HV1.out, HV2.out]; exact HGE.out)
  rw [HL1.out] at hT
  have HT := hid hT
  clear hT hsl hsl2
  have HB := hid hb02
  clear hb02 hb2 hrow
  go_wp2_with fail
  refine HT.out.mono ?_
  rintro e w4 ⟨zs, rfl, hzl, hwz, hv, hr4, hb4⟩
  have hb04 := hid (HB.out.trans hb4)
  have hhs4 : w.heap.size < w4.heap.size := Nat.lt_of_lt_of_le hsz2 hb4.size
  have HV4 := hid hv
  have HZL := hid hzl
  clear hv hzl hb4 HB HT hsz2
  go_wp2_with fail
  have hsz := hr4.sl hwz (cap := wid xs) (by rw [HZL.out]; exact Nat.le_refl _) (by omega) hhs4
  rw [HZL.out] at hsz
  have HW4 := hid (width_any hsz)
  clear hsz
  refine HW4.out.mono ?_
  rintro e w5 ⟨rfl, rfl⟩
  clear HW4
  have l5 := wid_le zs
  have l6 : wid zs ≤ wid xs := by have := HZL.out; omega
  go_wp2
  go_ret2
  refine ⟨lst zs, wid xs, ws (zs.drop (wid zs)), by rw [length_lst]; rfl, canon_lst hwz, ?_, ?_, ?_, by omega, ?_, hb04.out, hhs4⟩
  · rw [val_lst, HV4.out, HV1.out, HV2.out]
  · rw [length_lst]; exact l6
  · rw [length_lst, length_ws, List.length_drop, HZL.out]; omega
  · have e : ws (lst zs) ++ ws (zs.drop (wid zs)) = ws zs ++ [] := by
      unfold lst ws
      rw [← List.map_append, List.take_append_drop, List.append_nil]
    rw [e]; exact hr4
end Go.Proofs.YtiedmlfiboalhaaGreat

/- Now -/
namespace Go.Proofs.YtiedmlfiboalhaaGreat
open Go.RowKit

theorem below_step {w0 w w' : World} (h : Below w0.heap.size w0 w) (k : Below w.heap.size w w') : Below w0.heap.size w0 w' := h.trans (k.mono h.size)

theorem same_now {w : World} {v u : Value} {xs ys : List Int} (h : Sl w.heap.size w v xs) (h' : Sl w.heap.size w u ys) :
    Calls Tryz.prog 66 #[v, u] w fun e w' => e = .returned (.bool (same xs ys)) ∧ Below w.heap.size w w' :=
  (same_any h h').mono fun e w' ⟨h1, n, h2⟩ => ⟨h1, by subst h2; exact below_drewN (Below.refl _ _) n⟩
theorem same_yes {w : World} {v u : Value} {xs ys : List Int} (h : Sl w.heap.size w v xs) (h' : Sl w.heap.size w u ys) (he : xs = ys) :
    Calls Tryz.prog 66 #[v, u] w fun e w' => e = .returned (.bool true) ∧ Below w.heap.size w w' := by
  have := same_now h h'
  subst he
  rwa [same_self] at this
theorem cmp_now {w : World} {v u : Value} {xs ys : List Int} (h : Sl w.heap.size w v xs) (h' : Sl w.heap.size w u ys) :
    Calls Tryz.prog 100 #[v, u] w fun e w' => e = .returned (.int .i64 (cmpI (val xs) (val ys))) ∧ Below w.heap.size w w' :=
  (cmp_any h h').mono fun e w' ⟨h1, n, h2⟩ => ⟨h1, by subst h2; exact below_drewN (Below.refl _ _) n⟩
theorem Sl.nil (w : World) : Sl w.heap.size w (.slice Option.none 0 0) [] := Sl.nilAt w
end Go.Proofs.YtiedmlfiboalhaaGreat

/- Mul -/
namespace Go.Proofs.YtiedmlfiboalhaaGreat
open Go.RowKit
set_option linter.unusedVariables false

end Go.Proofs.YtiedmlfiboalhaaGreat

/- MulAll -/
namespace Go.Proofs.YtiedmlfiboalhaaGreat
open Go.RowKit
set_option linter.unusedVariables false

theorem Makes.as {w w' : World} {s t : Int} {e : Ending} (h : Makes w s e w') (hst : s = t) : Makes w t e w' := by subst hst; exact h

/-- What comes out, as the laws want it. -/
def Gives (w : World) (s : Int) (k : Nat) (e : Ending) (w' : World) : Prop :=
  ∃ zs a cap, e = .returned (.slice a zs.length cap) ∧ Sl w'.heap.size w' (.slice a zs.length cap) zs ∧ Canon zs ∧ val zs = s ∧ zs.length ≤ k ∧ Below w.heap.size w w'
theorem Makes.gives {w w' : World} {s : Int} {k : Nat} {e : Ending} (h : Makes w s e w') (hs : s < pw k) : Gives w s k e w' := by
  obtain ⟨zs, r, rfl, m1, m2, m3, m4⟩ := h
  obtain ⟨a, cap, rfl⟩ := m1.form
  exact ⟨zs, a, cap, rfl, m1.sl, m2, m3, canon_len m2 (by rw [m3]; exact hs), m4⟩
end Go.Proofs.YtiedmlfiboalhaaGreat

/- Zed -/
namespace Go.Proofs.YtiedmlfiboalhaaGreat
open Go.RowKit
set_option linter.unusedVariables false

/-- The integer of a sign and a list of words. -/
def iv (n : Bool) (xs : List Int) : Int := if n = true then -(val xs) else val xs
theorem iv_neg (xs : List Int) : iv true xs = -(val xs) := by simp [iv]
theorem iv_pos (xs : List Int) : iv false xs = val xs := by simp [iv]
theorem iv_nil (n : Bool) : iv n [] = 0 := by cases n <;> simp [iv, val]
theorem iv_not (n : Bool) (xs : List Int) : iv (!n) xs = -(iv n xs) := by cases n <;> simp [iv]

/-- An integer in whatever form, of at most k words. -/
def Zi (w : World) (v : Value) (z : Int) (k : Nat) : Prop :=
  ∃ n xs a c, v = .agg #[.bool n, .slice a xs.length c] ∧ Sl w.heap.size w (.slice a xs.length c) xs ∧ iv n xs = z ∧ xs.length ≤ k
/-- An integer in least form, its words in memory from block B on that is its own. -/
def Zm (B : Nat) (w : World) (v : Value) (z : Int) (k : Nat) : Prop :=
  ∃ n zs a c, v = .agg #[.bool n, .slice a zs.length c] ∧ Mine B w (.slice a zs.length c) zs ∧ Canon zs ∧ (zs = [] → n = false) ∧ iv n zs = z ∧ zs.length ≤ k

theorem Zi.now {w w' : World} {v : Value} {z : Int} {k : Nat} (h : Zi w v z k) (hb : Below w.heap.size w w') : Zi w' v z k := by
  obtain ⟨n, xs, a, c, h1, h2, h3, h4⟩ := h
  exact ⟨n, xs, a, c, h1, h2.now hb, h3, h4⟩
theorem Zi.more {w : World} {v : Value} {z : Int} {k l : Nat} (h : Zi w v z k) (hl : k ≤ l) : Zi w v z l := by
  obtain ⟨n, xs, a, c, h1, h2, h3, h4⟩ := h
  exact ⟨n, xs, a, c, h1, h2, h3, by omega⟩
theorem Zm.now {B : Nat} {w w' : World} {v : Value} {z : Int} {k : Nat} (h : Zm B w v z k) (hb : Below w.heap.size w w') : Zm B w' v z k := by
  obtain ⟨n, xs, a, c, h1, h2, h3, h4, h5, h6⟩ := h
  exact ⟨n, xs, a, c, h1, h2.below hb, h3, h4, h5, h6⟩
theorem Zm.more {B : Nat} {w : World} {v : Value} {z : Int} {k l : Nat} (h : Zm B w v z k) (hl : k ≤ l) : Zm B w v z l := by
  obtain ⟨n, xs, a, c, h1, h2, h3, h4, h5, h6⟩ := h
  exact ⟨n, xs, a, c, h1, h2, h3, h4, h5, by omega⟩
theorem Zm.mono {B B' : Nat} {w : World} {v : Value} {z : Int} {k : Nat} (h : Zm B w v z k) (hB : B' ≤ B) : Zm B' w v z k := by
  obtain ⟨n, xs, a, c, h1, h2, h3, h4, h5, h6⟩ := h
  exact ⟨n, xs, a, c, h1, h2.mono hB, h3, h4, h5, h6⟩
theorem Zm.zi {B : Nat} {w : World} {v : Value} {z : Int} {k : Nat} (h : Zm B w v z k) : Zi w v z k := by
  obtain ⟨n, xs, a, c, h1, h2, h3, h4, h5, h6⟩ := h
  exact ⟨n, xs, a, c, h1, h2.sl, h5, h6⟩

/-- The sign is told by the words: there is one form. -/
theorem iv_one {n m : Bool} {xs ys : List Int} (h : iv n xs = iv m ys) (hx : Canon xs) (hy : Canon ys) (hn : xs = [] → n = false) (hm : ys = [] → m = false) : n = m ∧ xs = ys := by
  have h1 := val_nonneg hx.1
  have h2 := val_nonneg hy.1
  have key : ∀ {zs : List Int}, Canon zs → zs ≠ [] → val zs ≠ 0 := fun hc hne e => hne (canon_zero hc e)
  cases n <;> cases m
  · simp only [iv_pos] at h
    exact ⟨rfl, canon_inj hx hy h⟩
  · simp only [iv_pos, iv_neg] at h
    have e : ys = [] := Classical.byContradiction fun q => key hy q (by omega)
    exact absurd (hm e) (by simp)
  · simp only [iv_pos, iv_neg] at h
    have e : xs = [] := Classical.byContradiction fun q => key hx q (by omega)
    exact absurd (hn e) (by simp)
  · simp only [iv_neg] at h
    exact ⟨rfl, canon_inj hx hy (by omega)⟩
/-- What comes out of a call that answers an integer. -/
def GivesZ (w : World) (z : Int) (k : Nat) (e : Ending) (w' : World) : Prop := ∃ r, e = .returned r ∧ Zm w.heap.size w' r z k ∧ Below w.heap.size w w'

/-- A sign for a list in least form. -/
theorem zm_of {B : Nat} {w : World} {n : Bool} {zs : List Int} {a : Option Addr} {c k : Nat} (h : Mine B w (.slice a zs.length c) zs) (hc : Canon zs) (hk : zs.length ≤ k) :
    Zm B w (.agg #[.bool (n && decide (0 < zs.length)), .slice a zs.length c]) (iv n zs) k := by
  refine ⟨_, zs, a, c, rfl, h, hc, fun e => by subst e; simp, ?_, hk⟩
  by_cases e : zs = []
  · subst e; simp [iv_nil]
  · have : 0 < zs.length := Nat.pos_of_ne_zero (fun q => e (List.eq_nil_of_length_eq_zero q))
    simp [this]
end Go.Proofs.YtiedmlfiboalhaaGreat
