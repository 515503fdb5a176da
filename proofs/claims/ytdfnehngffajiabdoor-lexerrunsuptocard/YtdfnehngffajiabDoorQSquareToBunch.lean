/-
  QSquareToBunch: Square, Bunch, joined.
-/
import Derived.Test.YtdfnehngffajiabDoorQMulAll
import Derived.Test.YtdfnehngffajiabDoorQDivModToTimes
import Derived.Deep.AppendLies

/- Square -/
namespace Go.Proofs.YtdfnehngffajiabDoor
open Go.RowKit
set_option linter.unusedVariables false

theorem square_any {w : World} {va : Value} {xs : List Int} (ha : Sl w.heap.size w va xs) (hl : xs.length + xs.length ≤ 35184372088832) :
    Calls Tryd.prog 42 #[va] w (Makes w (val xs * val xs)) := by
  have HM := hid (mul_any ha ha hl)
  clear ha
  go_enter Tryd.func42, Tryd.ntmps42
  go_wp2_with fail
  refine HM.out.mono ?_
  rintro e w1 ⟨zs, r, rfl, m1, m2, m3, m4⟩
  go_wp2
  go_ret
  exact ⟨zs, r, rfl, m1, m2, m3, m4⟩
theorem square_now {w : World} {va : Value} {xs : List Int} (ha : Sl w.heap.size w va xs) (hl : xs.length + xs.length ≤ 35184372088832) :
    Calls Tryd.prog 42 #[va] w (Gives w (val xs * val xs) (xs.length + xs.length)) := (square_any ha hl).mono fun _ _ h => h.gives (val_mul_lt ha.1 ha.1)
end Go.Proofs.YtdfnehngffajiabDoor

/- Bunch -/
namespace Go.Proofs.YtdfnehngffajiabDoor
open Go.RowKit
set_option linter.unusedVariables false

theorem Tryd.infoLs : (Tryd.prog.info? 34).map (fun i => (i.zero, i.size, i.bytes)) = some (some (.slice none 0 0), 1, 24) := by kernel_rfl
theorem head_add (g j : Nat) : (⟨g, 0, none⟩ : Addr).add j = ⟨g, j, none⟩ := by unfold Addr.add; split <;> simp_all
theorem mineS_grown {B base n : Nat} {w w' : World} {u v : Value} {zs : List Int} {Us : List Value} (h : Mine B w u zs) (ho : w.ownsRow base 34 1 v n Us) (hg : w.grownBy w' v.ownBlock) : Mine B w' u zs := by
  obtain ⟨hw, h | ⟨g, r, cap, h1, h2, h3, h4, h5, h6⟩⟩ := h
  · exact ⟨hw, .inl h⟩
  · refine ⟨hw, .inr ⟨g, r, cap, h1, h2, h3, h4, h5, (hg.block g h6.lt fun e => ?_).trans h6⟩⟩
    obtain ⟨_, ⟨q, _⟩ | ⟨g', cap', cur, q, _, q4, _⟩⟩ := ho
    · rw [q] at e; cases e
    · rw [q] at e
      simp only [Value.ownBlock, Option.some.injEq] at e
      subst e
      have := h6.symm.trans q4
      simp at this
/-- The slice value v gathers the lists Ps; its row lies from block B on. -/
def Bunch (B : Nat) (w : World) (v : Value) (Ps : List (List Int)) : Prop :=
  ∃ Us : List Value, w.ownsRow B 34 1 v Us.length Us ∧ Us.length = Ps.length ∧ ∀ j (h : j < Us.length) (h' : j < Ps.length), Mine 0 w Us[j] Ps[j]
theorem Bunch.nil (B : Nat) (w : World) : Bunch B w (.slice none 0 0) [] := ⟨[], World.ownsRow_nil _ _ _ _, rfl, fun j h => by simp at h⟩
theorem Bunch.now {B : Nat} {w w' : World} {v : Value} {Ps : List (List Int)} (h : Bunch B w v Ps) (hb : Below w.heap.size w w') : Bunch B w' v Ps := by
  obtain ⟨Us, h1, h2, h3⟩ := h
  refine ⟨Us, ?_, h2, fun j a b => (h3 j a b).below hb⟩
  obtain ⟨q1, q2 | ⟨g, cap, cur, q2, q3, q4, q5⟩⟩ := h1
  · exact ⟨q1, .inl q2⟩
  · exact ⟨q1, .inr ⟨g, cap, cur, q2, q3, (hb.block g (Array.getElem?_eq_some_iff.1 q4).1).trans q4, q5⟩⟩
theorem Bunch.form {B : Nat} {w : World} {v : Value} {Ps : List (List Int)} (h : Bunch B w v Ps) : ∃ a cap, v = .slice a Ps.length cap ∧ Ps.length ≤ cap := by
  obtain ⟨Us, ⟨q1, ⟨q2, q3⟩ | ⟨g, cap, cur, q2, q3, q4, q5, q6⟩⟩, h2, h3⟩ := h
  · exact ⟨none, 0, by rw [q2, ← h2, q3], by omega⟩
  · exact ⟨_, cap, by rw [q2, h2], by omega⟩
theorem Bunch.lw {B : Nat} {w : World} {a : Option Addr} {n cap : Nat} {Ps : List (List Int)} (h : Bunch B w (.slice a n cap) Ps) : Lw w a Ps := by
  obtain ⟨Us, h1, h2, h3⟩ := h
  have h1' := h1
  obtain ⟨q1, ⟨q2, q3⟩ | ⟨g, cap', cur, q2, q3, q4, q5⟩⟩ := h1
  · exact .inl (List.eq_nil_of_length_eq_zero (by omega))
  · simp only [Value.slice.injEq] at q2
    obtain ⟨rfl, rfl, rfl⟩ := q2
    refine .inr ⟨g, 0, rfl, (Array.getElem?_eq_some_iff.1 q4).1, fun j hj => ?_⟩
    have hj' : j < Us.length := by omega
    have := World.ownsRow.cells h1' (g := g) rfl j Us[j] (by simp [hj'])
    rw [head_add] at this
    exact ⟨Us[j], by rw [Nat.zero_add]; exact this, (h3 j hj' hj).sl⟩
theorem wpList_append_bunch (w : World) {ops : Array Oper} {rest : List Oper} {o : Oper} {a : Act} {Q : Exit → Act → World → Prop}
    (hgd : o.guard = none) (s x : Operand) (hop : o.op = .call { callee := .builtin .append, args := #[s, x], argTypes := #[73, 73] })
    (B : Nat) (v u : Value) (Ps : List (List Int)) (zs : List Int) (hs : a.eval s = v) (hB : Bunch B w v Ps) (g : Nat) (hx : a.eval x = .slice (some ⟨g, 0, none⟩) 1 1) (hc : w.cell? ⟨g, 0, none⟩ = some u) (hu : Mine 0 w u zs) (hlen : Ps.length ≤ 1000000000) (hBs : B ≤ w.heap.size)
    (hK : ∀ a' cap' w', Hid (Bunch B w' (.slice a' (Ps.length + 1) cap') (Ps ++ [zs])) → Hid (∀ (u : Value) (zs : List Int) {E : Nat}, Mine E w u zs → Mine E w' u zs) → Hid (Below B w w') → wpList Tryd.prog ops Q rest (a.put o.dst (.slice a' (Ps.length + 1) cap')) w') :
    wpList Tryd.prog ops Q (o :: rest) a w := by
  obtain ⟨i, hi, hz, hsz, hby⟩ := info_parts Tryd.infoLs
  obtain ⟨Us, h1, h2, h3⟩ := hB
  have hone : u.oneCell' = true := by obtain ⟨a, c, rfl⟩ := hu.form; rfl
  refine wpList_append_lies w hgd s x 73 hop B 34 i (.slice none 0 0) 1 24 Tryd.underlying73 hi hz hsz hby rfl (by omega) v Us.length Us hs h1 ⟨g, 0, none⟩ 1 1 [u] hx rfl ?_ ?_ (by omega) (by unfold maxLen; omega) (by omega) hBs w.heap.size rfl ?_
  · intro j u' hj
    match j, hj with
    | 0, hj => simp at hj; subst hj; rw [head_add]; exact hc
  · intro u' hu'
    simp at hu'
    subst hu'
    exact hone
  · intro g' cap' w' k1 k2 k3 k4
    have hl : (Us ++ [u]).length = Us.length + 1 := by simp
    have keep : ∀ (u : Value) (zs : List Int) {E : Nat}, Mine E w u zs → Mine E w' u zs := fun u zs _ h => mineS_grown h h1 k2
    rw [h2] at k1 ⊢
    refine hK _ _ w' ⟨Us ++ [u], by rw [hl, h2]; exact k1, by simp [h2], fun j q1 q2 => ?_⟩ keep ?_
    · rcases Nat.lt_or_ge j Us.length with q | q
      · rw [List.getElem_append_left q, List.getElem_append_left (by omega)]
        exact keep _ _ (h3 j q (by omega))
      · obtain rfl : j = Us.length := by simp at q1; omega
        rw [List.getElem_append_right (by omega), List.getElem_append_right (by omega)]
        simp only [h2, Nat.sub_self, List.getElem_cons_zero]
        exact keep _ _ hu
    · refine ⟨k2.os, k2.tape, k2.output, k2.size, fun k hk => k2.block k (by omega) (fun e => ?_)⟩
      obtain ⟨_, ⟨q, _⟩ | ⟨g1, cap1, cur, q, q3, _⟩⟩ := h1
      · rw [q] at e; cases e
      · rw [q] at e
        obtain rfl : k = g1 := by simpa [Value.ownBlock] using e
        omega
end Go.Proofs.YtdfnehngffajiabDoor
