/-
  Cu25: the program's cutter in memory; wrong, goesOn.
-/
import Derived.Test.YtdfnehngffajiaaDoorPz25
import Derived.Test.YtdfnehngffajiaaDoorKo25
namespace Go.Proofs.YtdfnehngffajiaaDoor
open Go.RowKit
set_option linter.unusedVariables false

/-- The cells of a block. -/
def Ce (w : World) (b : Nat) (T : TypeId) (L : List Value) : Prop := w.heap[b]? = some (.cells L.toArray T (0, 0))
theorem Ce.lt {w : World} {b : Nat} {T : TypeId} {L : List Value} (h : Ce w b T L) : b < w.heap.size := (Array.getElem?_eq_some_iff.1 (show w.heap[b]? = _ from h)).1
theorem Ce.at {w : World} {b : Nat} {T : TypeId} {L : List Value} (h : Ce w b T L) {i : Nat} {v : Value} (e : L[i]? = some v) : w.cell? ⟨b, i, none⟩ = some v := by
  simp only [World.cell?, show w.heap[b]? = _ from h]
  simpa using e
theorem Ce.fz {w : World} {b : Nat} {T : TypeId} {L : List Value} (h : Ce w b T L) (i : Nat) : w.frozen? ⟨b, i, none⟩ = false := by simp [World.frozen?, show w.heap[b]? = _ from h]
theorem Ce.set {w : World} {b : Nat} {T : TypeId} {L : List Value} (h : Ce w b T L) (i : Nat) (v : Value) : Ce (w.setCell ⟨b, i, none⟩ v) b T (L.set i v) := by
  have hb := h.lt
  unfold Ce at h ⊢
  simp [World.setCell, Array.getElem?_modify, h]
theorem Ce.keep {w w' : World} {b : Nat} {T : TypeId} {L : List Value} (h : Ce w b T L) (hb : w'.heap[b]? = w.heap[b]?) : Ce w' b T L := hb.trans h
/-- The cutter in the block c. -/
abbrev Cu (w : World) (c : Nat) (s : ByteArray) (lv : Value) (col op b rc : Nat) (cm : Bool) (ft : Int) : Prop := Ce w c 54 [.string s, lv, .int .i64 (col : Int), .int .i64 (op : Int), .int .i64 (b : Int), .int .i64 (rc : Int), .bool cm, .int .i64 ft]
variable {w : World} {c : Nat} {s : ByteArray} {lv : Value} {col op b rc : Nat} {cm : Bool} {ft : Int}
theorem Toks.set {B : Nat} {v : Value} {L : List Tok} {p : Addr} {x : Value} (h : Toks B w v L) (hp : p.block < B) : Toks B (w.setCell p x) v L := h.keep fun g hg _ => Below.heap_setCell _ _ _ _ (by omega)
theorem wrong25 (h : Cu w c s lv col op b rc cm ft) (x e : Int) : Calls Tryd.prog 37 #[.pointer (some ⟨c, 0, none⟩), .int .i64 x, .int .i64 e] w fun y w' => y = .returned (.int .i64 e) ∧ w' = w.setCell ⟨c, 7, none⟩ (.int .i64 x) := by
  have k7 := h.at (i := 7) rfl
  have z7 := h.fz 7
  go_enter Tryd.func37, Tryd.ntmps37
  go_wp2
  go_ret
  exact ⟨rfl, rfl⟩
/-- Does a character of that kind go on? -/
def goS (op kd : Nat) : Bool := if op = 1 then (kd == 4 || kd == 5) else if op = 2 then (kd == 4 || kd == 5 || kd == 6) else false
theorem goesOn25 (h : Cu w c s lv col op b rc cm ft) (kd : Nat) (ho : op = 0 ∨ op = 1 ∨ op = 2) : Calls Tryd.prog 36 #[.pointer (some ⟨c, 0, none⟩), .int .i64 (kd : Int)] w fun y w' => y = .returned (.bool (goS op kd)) ∧ w' = w := by
  have k3 := h.at (i := 3) rfl
  rcases ho with rfl | rfl | rfl
  · rw [show goS 0 kd = false from rfl]
    clear h
    go_enter Tryd.func36, Tryd.ntmps36
    go_wp2
    go_ret
    exact ⟨rfl, rfl⟩
  · rw [show goS 1 kd = (kd == 4 || kd == 5) from rfl]
    clear h
    by_cases c4 : kd = 4
    · subst c4
      go_enter Tryd.func36, Tryd.ntmps36
      go_wp2
      go_ret
      exact ⟨rfl, rfl⟩
    by_cases c5 : kd = 5
    · subst c5
      go_enter Tryd.func36, Tryd.ntmps36
      go_wp2
      go_ret
      exact ⟨rfl, rfl⟩
    have f4 : ((kd : Int) == 4) = false := by rw [beq_eq_false_iff_ne]; omega
    have f5 : ((kd : Int) == 5) = false := by rw [beq_eq_false_iff_ne]; omega
    have e : (kd == 4 || kd == 5) = false := by simp [c4, c5]
    rw [e]
    clear c4 c5 e
    go_enter Tryd.func36, Tryd.ntmps36
    go_wp2
    go_ret
    exact ⟨rfl, rfl⟩
  · rw [show goS 2 kd = (kd == 4 || kd == 5 || kd == 6) from rfl]
    clear h
    by_cases c4 : kd = 4
    · subst c4
      go_enter Tryd.func36, Tryd.ntmps36
      go_wp2
      go_ret
      exact ⟨rfl, rfl⟩
    by_cases c5 : kd = 5
    · subst c5
      go_enter Tryd.func36, Tryd.ntmps36
      go_wp2
      go_ret
      exact ⟨rfl, rfl⟩
    by_cases c6 : kd = 6
    · subst c6
      go_enter Tryd.func36, Tryd.ntmps36
      go_wp2
      go_ret
      exact ⟨rfl, rfl⟩
    have f4 : ((kd : Int) == 4) = false := by rw [beq_eq_false_iff_ne]; omega
    have f5 : ((kd : Int) == 5) = false := by rw [beq_eq_false_iff_ne]; omega
    have f6 : ((kd : Int) == 6) = false := by rw [beq_eq_false_iff_ne]; omega
    have e : (kd == 4 || kd == 5 || kd == 6) = false := by simp [c4, c5, c6]
    rw [e]
    clear c4 c5 c6 e
    go_enter Tryd.func36, Tryd.ntmps36
    go_wp2
    go_ret
    exact ⟨rfl, rfl⟩
end Go.Proofs.YtdfnehngffajiaaDoor
