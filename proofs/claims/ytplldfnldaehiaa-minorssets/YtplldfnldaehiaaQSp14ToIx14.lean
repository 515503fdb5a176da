/-
  QSp14ToIx14: Sp14, Do14, Gi10, Up13, Ix14, joined.
-/
import Derived.Test.YtplldfnldaehiaaQPickB9ToSq14
import Derived.Test.YtplldfnldaehiaaQTo14ToPickA9
import Derived.Deep.AppendLies
import Derived.Test.YtplldfnldaehiaaQSr13
import Derived.Maps.AppendAt
import Derived.Lib.BufferMore

/- Sp14 -/
namespace Go.Proofs.Ytplldfnldaehiaa
open Go.RowKit
set_option linter.unusedVariables false

abbrev nf (l : List Nat) : Nat → Int := fun t => (l.getD t 0 : Nat)
def StpH (w : World) (l : List Nat) (n k gk : Nat) (s5 s6 : Value) (wx : World) : Prop :=
  ∃ u : Nat, s6 = .int .i64 ((u : Int) - 1) ∧ s5 = .int .i64 ((n : Int) - 1 - ((k : Int) - (u : Int))) ∧ u ≤ k ∧ gk = u ∧ (∀ j, u ≤ j → j < k → n ≤ l.getD j 0 + (k - j)) ∧ wx = w
/-- The row while the end is written anew. -/
def sqF (l : List Nat) (i v : Nat) : Nat → Int := fun t => if t < i then (l.getD t 0 : Nat) else if t < v then ((l.getD i 0 + 1 + (t - i) : Nat) : Int) else (l.getD t 0 : Nat)
def StwH (w : World) (g : Nat) (l : List Nat) (i k gk : Nat) (s6 s7 : Value) (wx : World) : Prop :=
  ∃ v : Nat, s6 = .int .i64 (v : Int) ∧ s7 = .int .i64 ((l.getD i 0 + 1 + (v - i) : Nat) : Int) ∧ i ≤ v ∧ v ≤ k ∧ gk = k - v ∧ Cel wx g 3 (wf k (sqF l i v)) ∧ Touch (· = g) w wx
theorem sqF_zero (l : List Nat) (i : Nat) : ∀ t, sqF l i i t = nf l t := fun t => by
  unfold sqF nf
  by_cases q : t < i
  · rw [if_pos q]
  · rw [if_neg q, if_neg q]
theorem sqF_put {l : List Nat} {i v : Nat} (h : i ≤ v) (t : Nat) : upF (sqF l i v) v ((l.getD i 0 + 1 + (v - i) : Nat) : Int) t = sqF l i (v + 1) t := by
  unfold upF sqF
  by_cases q : t = v
  · subst q; rw [if_pos rfl, if_neg (by omega), if_pos (by omega)]
  · rw [if_neg q]
    by_cases a : t < i
    · rw [if_pos a, if_pos a]
    · rw [if_neg a, if_neg a]
      by_cases b : t < v
      · rw [if_pos b, if_pos (by omega)]
      · rw [if_neg b, if_neg (by omega)]
theorem sqF_end {l : List Nat} {i k t : Nat} (hi : i ≤ k) (hl : l.length = k) (ht : t < k) : sqF l i k t = nf (l.take i ++ seqN (l.getD i 0 + 1) (k - i)) t := by
  unfold sqF
  show _ = (((l.take i ++ seqN (l.getD i 0 + 1) (k - i)).getD t 0 : Nat) : Int)
  have el : (l.take i).length = i := by simp; omega
  obtain ⟨S, hS⟩ : ∃ S, seqN (l.getD i 0 + 1) (k - i) = S := ⟨_, rfl⟩
  rw [hS]
  by_cases q : t < i
  · rw [if_pos q]
    have : (l.take i ++ S).getD t 0 = l.getD t 0 := by
      simp only [List.getD_eq_getElem?_getD]
      rw [List.getElem?_append_left (by omega), List.getElem?_take, if_pos q]
    rw [this]
  · rw [if_neg q, if_pos ht]
    have : (l.take i ++ S).getD t 0 = S.getD (t - i) 0 := by
      simp only [List.getD_eq_getElem?_getD]
      rw [List.getElem?_append_right (by omega), el]
    rw [this, ← hS, seqN_at (k - i) (l.getD i 0 + 1) (t - i) (by omega)]
/-- What step answers. -/
def Stepped (w : World) (g n k : Nat) (l : List Nat) (e : Ending) (w' : World) : Prop :=
  (nxt n l = none ∧ e = .returned (.bool false) ∧ w' = w) ∨ ∃ l', nxt n l = some l' ∧ e = .returned (.bool true) ∧ Cel w' g 3 (wf k (nf l')) ∧ Touch (· = g) w w'
set_option maxHeartbeats 1600000 in
set_option maxRecDepth 100000 in
theorem step_any {w : World} {g k n : Nat} {l : List Nat} (hc : Cel w g 3 (wf k (nf l))) (hl : l.length = k) (hk : k ≤ 64) (hn : n ≤ 64) (hlt : ∀ t, t < k → l.getD t 0 < n) :
    Calls Try.prog 18 #[.slice (some ⟨g, 0, none⟩) k k, .int .i64 (n : Int)] w (Stepped w g n k l) := by
  have CC := hid hc
  have HL := hid hl
  have HLT := hid hlt
  have H0 : Hid (StpH w l n k k (.int .i64 ((k : Int) - 1)) (.int .i64 ((k : Int) - 1)) w → True) := fun _ => trivial
  have H1 : Hid (StpH w l n k k (.int .i64 ((n : Int) - 1)) (.int .i64 ((k : Int) - 1)) w) := ⟨k, rfl, by congr 1; omega, Nat.le_refl _, rfl, fun j h1 h2 => by omega, rfl⟩
  have hw1 : IntKind.i64.wrap ((n : Int) - 1) = (n : Int) - 1 := by rw [wrap_is] <;> omega
  have hw2 : IntKind.i64.wrap ((k : Int) - 1) = (k : Int) - 1 := by rw [wrap_is] <;> omega
  clear hc hl hlt H0
  go_enter Try.func18, Try.ntmps18
  go_wp2_with fail
  clear hw1 hw2
  go_loopg [5, 6] k (fun gk s5 s6 wx => StpH w l n k gk s5 s6 wx)
  case atStart => exact H1.out
  case round =>
    clear H1
    obtain ⟨u, rfl, rfl, huk, hg, hh, hwx⟩ := hrel
    rw [hwx]
    clear hwx wr
    have HG := hid hg
    have HH := hid hh
    clear hg hh
    by_cases hu : u = 0
    · have hu' : ¬ (0 : Int) ≤ (u : Int) - 1 := by omega
      have hu2 : (decide ((0 : Int) ≤ (u : Int) - 1)) = false := decide_eq_false hu'
      have FIN : Hid (Stepped w g n k l (.returned (.bool false)) w) := .inl ⟨nxt_high fun i hi => by
        have := HH.out i (by omega) (by rw [← HL.out]; exact hi)
        rw [HL.out]; exact this, rfl, rfl⟩
      clear HG HH hu CC HL HLT
      go_wp2
      go_ret
      exact FIN.out
    · obtain ⟨i, rfl⟩ : ∃ i, u = i + 1 := ⟨u - 1, by omega⟩
      have ei : ((i + 1 : Nat) : Int) - 1 = (i : Int) := by omega
      have el : (n : Int) - 1 - ((k : Int) - ((i + 1 : Nat) : Int)) = (n : Int) + (i : Int) - (k : Int) := by omega
      rw [ei, el]
      have hik : i < k := by omega
      have hik' : (i : Int) < (k : Int) := by omega
      have c0 := CC.out.nf hik
      obtain ⟨x, hx⟩ : ∃ x, l.getD i 0 = x := ⟨_, rfl⟩
      have c0' : w.cell? ⟨g, i, none⟩ = some (.int .i64 (x : Int)) := by rw [c0]; show some (Value.int .i64 ((l.getD i 0 : Nat) : Int)) = _; rw [hx]
      have hxn : x < n := by rw [← hx]; exact HLT.out i hik
      have HX := hid hx
      clear c0 hx hu ei el
      by_cases hless : (x : Int) < (n : Int) + (i : Int) - (k : Int)
      · have hwx := wrapI9 (i := x) (by omega)
        have HNX : Hid (nxt n l = some (l.take i ++ seqN (x + 1) (k - i))) := by
          unfold Hid
          have := nxt_at (n := n) (i := i) (l := l) (by rw [HL.out]; exact hik) (by rw [HL.out, HX.out]; omega) (fun j h1 h2 => by
            rw [HL.out] at h2 ⊢
            exact HH.out j (by omega) h2)
          rw [HL.out, HX.out] at this
          exact this
        have H2 : Hid (StwH w g l i k (k - i) (.int .i64 (i : Int)) (.int .i64 ((x + 1 : Nat) : Int)) w) := ⟨i, rfl, by rw [HX.out, Nat.sub_self, Nat.add_zero], Nat.le_refl _, by omega, rfl, by rw [wf_congr fun t _ => sqF_zero l i t]; exact CC.out, Touch.refl _ _⟩
        clear HG HH CC
        go_wp2_with fail
        go_loopg [6, 7] (k - i) (fun gk s6 s7 wx => StwH w g l i k gk s6 s7 wx)
        case atStart => exact H2.out
        case round =>
          clear H2 c0'
          obtain ⟨v, rfl, rfl, hiv, hvk, hg, hcv, htv⟩ := hrel
          rw [HX.out]
          have CV := hid hcv
          have TV := hid htv
          have HG := hid hg
          clear hg hcv htv
          by_cases hlv : v < k
          · have hlv' : (v : Int) < (k : Int) := by omega
            have hwv := wrapI9 (i := v) (by omega)
            have e0 := CV.out.nf hlv
            have e1 := CV.out.fz v
            have HN1 : Hid (StwH w g l i k (k - (v + 1)) (.int .i64 ((v + 1 : Nat) : Int)) (.int .i64 ((x + 1 + (v - i) + 1 : Nat) : Int)) (wr.setCell ⟨g, v, none⟩ (.int .i64 ((x + 1 + (v - i) : Nat) : Int)))) := ⟨v + 1, rfl, by rw [HX.out]; congr 2; omega, by omega, by omega, rfl, by
              have := CV.out.nfset hlv ((l.getD i 0 + 1 + (v - i) : Nat) : Int)
              rw [wf_congr fun t _ => sqF_put hiv t, HX.out] at this
              exact this, TV.out.setCell (.inr rfl) _ _⟩
            have HMM : Hid (k - (v + 1) < gk) := by unfold Hid; rw [HG.out]; omega
            obtain ⟨y, hy⟩ : ∃ y, x + 1 + (v - i) = y := ⟨_, rfl⟩
            have hwy := wrapI9 (i := y) (by omega)
            rw [hy] at HN1 ⊢
            clear CV TV HG hy
            go_wp2_with fail
            go_roundg (k - (v + 1))
            case rel => exact HN1.out
            case measure => exact HMM.out
          · have hlv' : ¬ (v : Int) < (k : Int) := by omega
            obtain rfl : v = k := by omega
            have FIN : Hid (Stepped w g n v l (.returned (.bool true)) wr) := .inr ⟨_, HNX.out, rfl, by
              have := CV.out
              rw [wf_congr fun t ht => sqF_end (by omega) HL.out ht, HX.out] at this
              exact this, TV.out⟩
            obtain ⟨y, hy⟩ : ∃ y, x + 1 + (v - i) = y := ⟨_, rfl⟩
            rw [hy]
            clear CV TV HG HNX hy
            go_wp2
            go_ret
            exact FIN.out
      · have hwi : IntKind.i64.wrap ((i : Int) - 1) = (i : Int) - 1 := by rw [wrap_is] <;> omega
        have hwl : IntKind.i64.wrap ((n : Int) + (i : Int) - (k : Int) - 1) = (n : Int) + (i : Int) - (k : Int) - 1 := by rw [wrap_is] <;> omega
        have HN1 : Hid (StpH w l n k i (.int .i64 ((n : Int) + (i : Int) - (k : Int) - 1)) (.int .i64 ((i : Int) - 1)) w) := ⟨i, rfl, by congr 1; omega, by omega, rfl, fun j h1 h2 => by
          by_cases q : j = i
          · subst q; rw [HX.out]; omega
          · exact HH.out j (by omega) h2, rfl⟩
        have HMM : Hid (i < gk) := by unfold Hid; rw [HG.out]; omega
        clear HG HH CC
        go_wp2_with fail
        go_roundg i
        case rel => exact HN1.out
        case measure => exact HMM.out
end Go.Proofs.Ytplldfnldaehiaa

/- Do14 -/
namespace Go.Proofs.Ytplldfnldaehiaa
set_option linter.unusedVariables false

theorem mem_getD {l : List Nat} {i : Nat} (h : i < l.length) : l.getD i 0 ∈ l := by
  rw [List.getD_eq_getElem?_getD, List.getElem?_eq_getElem h]; exact List.getElem_mem _
section
variable (W bs os : List Nat) (m : Nat)
end
section
variable {W bs os : List Nat} {m : Nat}
end
end Go.Proofs.Ytplldfnldaehiaa

/- Gi10 -/
namespace Go.Proofs.Ytplldfnldaehiaa
open Go.RowKit
set_option linter.unusedVariables false

def wi10 (xs : List Int) : List Value := xs.map (Value.int .i64)
def RowI10 (w : World) (g : Nat) (L : List Value) : Prop := w.heap[g]? = some (.cells L.toArray 3 (0, 0))
theorem RowI10.lt {w : World} {g : Nat} {L : List Value} (h : RowI10 w g L) : g < w.heap.size := (Array.getElem?_eq_some_iff.1 h).1
theorem RowI10.now {w w' : World} {g : Nat} {L : List Value} (h : RowI10 w g L) (hb : Below w.heap.size w w') : RowI10 w' g L := (hb.block g h.lt).trans h
theorem RowI10.frozen {w : World} {g : Nat} {L : List Value} (h : RowI10 w g L) (i : Nat) : w.frozen? ⟨g, i, none⟩ = false := by
  unfold RowI10 at h
  simp [World.frozen?, h]
theorem RowI10.num {w : World} {g : Nat} {xs : List Int} {r : List Value} (h : RowI10 w g (wi10 xs ++ r)) {i : Nat} (hi : i < xs.length) : w.cell? ⟨g, i, none⟩ = some (.int .i64 xs[i]) := by
  unfold RowI10 at h
  have h1 : i < (wi10 xs ++ r).length := by simp [wi10]; omega
  have h2 : (wi10 xs ++ r)[i] = .int .i64 xs[i] := by
    rw [List.getElem_append_left (by simp [wi10]; exact hi)]
    simp [wi10]
  have h3 : (wi10 xs ++ r)[i]? = some (.int .i64 xs[i]) := by rw [List.getElem?_eq_getElem h1, h2]
  simpa [World.cell?, h] using h3
theorem Try.infoI10 : (Try.prog.info? 3).map (fun i => (i.zero, i.size, i.bytes)) = some (some (.int .i64 0), 1, 8) := by kernel_rfl
def Itr10 (B : Nat) (w : World) (v : Value) (ds : List Int) : Prop := w.ownsRow B 3 1 v ds.length (wi10 ds)
theorem Itr10.nil (B : Nat) (w : World) : Itr10 B w (.slice none 0 0) [] := World.ownsRow_nil _ _ _ _
theorem Itr10.now {B : Nat} {w w' : World} {v : Value} {ds : List Int} (h : Itr10 B w v ds) (hb : Below w.heap.size w w') : Itr10 B w' v ds := by
  obtain ⟨q1, q2 | ⟨g, cap, cur, q2, q3, q4, q5⟩⟩ := h
  · exact ⟨q1, .inl q2⟩
  · exact ⟨q1, .inr ⟨g, cap, cur, q2, q3, (hb.block g (Array.getElem?_eq_some_iff.1 q4).1).trans q4, q5⟩⟩
theorem Itr10.off {B g i : Nat} {w : World} {v u : Value} {ds : List Int} (h : Itr10 B w v ds) (hg : g < B) : Itr10 B (w.setCell ⟨g, i, none⟩ u) v ds := by
  obtain ⟨q1, q2 | ⟨g', cap, cur, q2, q3, q4, q5⟩⟩ := h
  · exact ⟨q1, .inl q2⟩
  · exact ⟨q1, .inr ⟨g', cap, cur, q2, q3, (Below.heap_setCell w _ u g' (by simp; omega)).trans q4, q5⟩⟩
theorem Itr10.row {B : Nat} {w : World} {v : Value} {ds : List Int} (h : Itr10 B w v ds) (hn : 0 < ds.length) : ∃ g cap rest, v = .slice (some ⟨g, 0, none⟩) ds.length cap ∧ B ≤ g ∧ RowI10 w g (wi10 ds ++ rest) ∧ ds.length ≤ cap := by
  obtain ⟨q1, ⟨q2, q3⟩ | ⟨g, cap, cur, q2, q3, q4, q5, q6, q7, q8⟩⟩ := h
  · omega
  · rw [Nat.mul_one] at q7 q8
    refine ⟨g, cap, cur.toList.drop ds.length, q2, q3, ?_, q5⟩
    unfold RowI10
    rw [← q8, List.take_append_drop]
    simpa using q4
end Go.Proofs.Ytplldfnldaehiaa

/- Up13 -/
namespace Go.Proofs.Ytplldfnldaehiaa
open Go.RowKit
set_option linter.unusedVariables false

def UpH (w : World) (n : Nat) (P : Nat → Bool) (gk : Nat) (s3 s4 : Value) (wx : World) : Prop := ∃ t : Nat, s4 = .int .i64 (t : Int) ∧ t ≤ n ∧ gk = n - t ∧ Ivs w.heap.size wx s3 ((List.range t).filter P) ∧ Below w.heap.size w wx
theorem UpH.more {P : Nat → Bool} {t : Nat} (h : P t = true) : (List.range t).filter P ++ [t] = (List.range (t + 1)).filter P := by rw [List.range_succ, List.filter_append]; simp [h]
theorem UpH.skip {P : Nat → Bool} {t : Nat} (h : P t = false) : (List.range t).filter P = (List.range (t + 1)).filter P := by rw [List.range_succ, List.filter_append]; simp [h]
theorem below_own {B : Nat} {w0 w w' : World} {v : Value} {l : List Nat} (h : Below B w0 w) (hB : B ≤ w.heap.size) (ho : Ivs B w v l) (hg : w.grownBy w' v.ownBlock) : Below B w0 w' :=
  h.trans ⟨hg.os, hg.tape, hg.output, hg.size, fun k hk => hg.block k (by omega) (fun e => by have := (ho.blk e.symm).1; omega)⟩
end Go.Proofs.Ytplldfnldaehiaa

/- Ix14 -/
namespace Go.Proofs.Ytplldfnldaehiaa
open Go.RowKit
set_option linter.unusedVariables false

/-- A whole row behind an empty list. -/
theorem wpList_append_row14 (w : World) {ops : Array Oper} {rest : List Oper} {o : Oper} {a : Act} {Q : Exit → Act → World → Prop}
    (hgd : o.guard = none) (s x : Operand) (hop : o.op = .call { callee := .builtin .append, args := #[s, x], argTypes := #[29, 29] })
    (B : Nat) (v : Value) (hs : a.eval s = v) (hP : Ivs B w v []) (g k : Nat) (l : List Nat) (hx : a.eval x = .slice (some ⟨g, 0, none⟩) k k) (hc : Cel w g 3 (wf k (nf l))) (hl : l.length = k) (hk : k ≤ 4096) (hBs : B ≤ w.heap.size)
    (hK : ∀ v' w', Hid (Ivs B w' v' l) → Hid (w.grownBy w' v.ownBlock) → wpList Try.prog ops Q rest (a.put o.dst v') w') :
    wpList Try.prog ops Q (o :: rest) a w := by
  refine wpList_plain hgd fun K hK' => ?_
  obtain ⟨i, hi, hz, hsz, hby⟩ := info_parts Try.infoI13
  have hnews : ∀ j u, (l.map fun (a : Nat) => Value.int .i64 (a : Int))[j]? = some u → w.cell? ((⟨g, 0, none⟩ : Addr).add j) = some u := fun j u hj => by
    have hj' : j < k := by
      have := (List.getElem?_eq_some_iff.1 hj).1
      rw [List.length_map, hl] at this
      exact this
    rw [head_add13, hc.nf hj']
    show some (Value.int .i64 ((l.getD j 0 : Nat) : Int)) = some u
    have hjl : j < l.length := by omega
    simp [hjl] at hj ⊢
    exact hj
  obtain ⟨v', w', hr, k1, k2, -, -⟩ := run_append_own_at (P := Try.prog) w B 29 o.type 3 i (.int .i64 0) 1 8 Try.underlying29 hi hz hsz hby rfl (by omega) v 0 [] (by have := hP; unfold Ivs at this; simpa using this) ⟨g, 0, none⟩ k k _ (by rw [List.length_map, hl, Nat.mul_one]) hnews (fun u hu => by
    obtain ⟨_, _, rfl⟩ := List.mem_map.1 hu
    rfl) (by unfold maxLen; omega) (by omega) hBs
  unfold Oper.wp execOp
  simp only [hop, resolve, invoke, builtin, Sem.run_bind, Sem.run_pure, Result.andThen_ok, List.map_toArray, List.map_cons, List.map_nil, hs, hx, hr]
  refine hK' _ _ (hK v' w' ?_ k2)
  unfold Hid Ivs
  rw [hl]
  rw [Nat.zero_add, List.nil_append] at k1
  exact k1
set_option maxHeartbeats 800000 in
set_option maxRecDepth 100000 in
theorem clone_any {w : World} {g k : Nat} {l : List Nat} (hc : Cel w g 3 (wf k (nf l))) (hl : l.length = k) (hk : k ≤ 4096) : Calls Try.prog 19 #[.slice (some ⟨g, 0, none⟩) k k] w fun e w' => ∃ v, e = .returned v ∧ Ivs w.heap.size w' v l ∧ Below w.heap.size w w' := by
  obtain ⟨V, hV⟩ : ∃ V, w.alloc (.cells #[] 3) = V := ⟨_, rfl⟩
  obtain ⟨bv, szv⟩ := alo1 w (.cells #[] 3)
  rw [hV] at bv szv
  have IV : Hid (Ivs w.heap.size V (.slice (some ⟨w.heap.size, 0, none⟩) 0 0) []) := by
    unfold Hid Ivs
    refine ⟨by simp, .inr ⟨w.heap.size, 0, #[], by simp, Nat.le_refl _, ?_, Nat.le_refl _, Nat.zero_le _, by simp, by simp⟩⟩
    rw [← hV]
    exact heap_alloc_new w _
  have CV := hid (hc.step bv)
  have BV := hid bv
  have EV := hid hV
  have HL := hid hl
  have hnil : ∀ W, (binOp .eql 29 (.slice (some ⟨g, 0, none⟩) k k) (.slice none 0 0)).run Try.prog W = .ok (.bool false) W := fun W => Lib.run_eql_slice_some_nil W _ _ _ Try.underlying29
  clear hc bv szv hV hl
  go_enter Try.func19, Try.ntmps19
  go_wp2_with (at_builtin; rw [EV.out]; refine wpList_append_row14 V rfl (.tmp 5) (.tmp 6) rfl w.heap.size _ rfl IV.out g k l rfl CV.out HL.out hk BV.out.size ?_)
  intro v' w' hI hg
  have FIN : Hid (Ivs w.heap.size w' v' l ∧ Below w.heap.size w w') := ⟨hI.out, below_own BV.out BV.out.size IV.out hg.out⟩
  obtain ⟨a', c', hv', -, -⟩ := hI.out.form
  rw [HL.out] at hv'
  subst hv'
  clear hI hg IV CV EV hnil
  go_wp2
  go_ret
  exact ⟨_, rfl, FIN.out⟩
end Go.Proofs.Ytplldfnldaehiaa
