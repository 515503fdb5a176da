/-
 QOf11ToPr12: Of11, Touch, Pr12, joined.
-/
import Derived.Test.YtnpcfohimlfbdaaGreatQEachM11ToLn11
import Derived.Test.YtnpcfohimlfbdaaGreatQCarryToTimes
import Derived.Below

set_option maxRecDepth 100000
set_option maxHeartbeats 6400000
set_option linter.unusedVariables false
set_option linter.unusedSimpArgs false
namespace Go.Proofs.YtnpcfohimlfbdaaGreat
open Go.RowKit Go.Shelf
attribute [local go_sem] Oper.semAt_some

def noDef11 (o : Oper) : Bool := match o.op with
 | .defer _ => false
 | _ => true
theorem hno_of11 {ops : Array Oper} (h : ops.all noDef11 = true) : ∀ (i : Nat) (o : Oper), ops[i]? = some o → ∀ c, o.op ≠ .defer c := fun i o ho c e => by
 have hm := Array.mem_of_getElem? ho
 have := (Array.all_eq_true_iff_forall_mem.1 h) o hm
 unfold noDef11 at this
 rw [e] at this
 cases this
theorem list_round {P : Program} {l n : Nat} {ops : Array Oper} {Q : Exit → Act → World → Prop} (hL : ¬ LetsOut Q) :
  ∀ (os : List Oper) (a : Act) (w : World), (∀ o ∈ os, ∀ c, o.op ≠ .defer c) → wpList P ops Q os a w → wpListIn (Fence.wide.inRound l) n P ops Q os a w
 | [], a, w, _, h => h
 | o :: rest, a, w, hno, h => by
  unfold wpList at h
  unfold wpListIn
  by_cases hw : Region.wanted o (yielded ops a.tmps) = true
  ·rw [if_pos hw] at h ⊢
   rcases h with h | ⟨_, h⟩
   ·exact Oper.wpIn_mono (fun a w => list_round hL rest a w (fun o ho => hno o (by simp [ho]))) (op_round (hno o (by simp)) h)
   ·exact absurd h hL
  ·rw [if_neg hw] at h ⊢
   exact ⟨fun _ _ => trivial, list_round hL rest _ _ (fun o ho => hno o (by simp [ho])) h⟩
theorem region_roundL {P : Program} {l n id : Nat} {ops : Array Oper} {Q : Exit → Act → World → Prop} {a : Act} {w : World} (hno : ∀ (i : Nat) (o : Oper), ops[i]? = some o → ∀ c, o.op ≠ .defer c) (hL : ¬ LetsOut Q)
  (h : wpList P ops Q ops.toList a w) : (Code.region id ops false).wpIn (Fence.wide.inRound l) n P Q a w :=
 wpIn_region_list (list_round hL _ _ _ (fun o ho c => by
  obtain ⟨i, hi, e⟩ := List.getElem_of_mem ho
  exact hno i o (by rw [← e]; simp) c) h)
/-- Cells are kept, and so is a sheet. -/
def Kc (X Y : World) : Prop := X.heap.size ≤ Y.heap.size ∧ ∀ (b : Nat) (o : Obj), X.heap[b]? = some o → o.isCells = true → Y.heap[b]? = some o
theorem kc_grown {W W' : World} {row : Option Nat} (hg : W.grownBy W' row) (hr : ∀ r, row = some r → ∃ o : Obj, W.heap[r]? = some o ∧ o.isCells = false) : Kc W W' := ⟨hg.size, fun b o h1 h2 => (grownBy_keeps_cells hg hr h1 h2).trans h1⟩
theorem Kc.cel {X Y : World} (h : Kc X Y) {b : Nat} {T : TypeId} {L : List Value} (d : Cel X b T L) : Cel Y b T L := h.2 b _ d rfl
theorem Kc.arr {X Y : World} (h : Kc X Y) {g : Nat} {ps : List (Value × Value)} (d : Arr X g ps) : Arr Y g ps := ⟨h.cel d.1, d.2⟩
theorem Zm.kc {B k : Nat} {w w' : World} {v : Value} {z : Int} (h : Zm B w v z k) (hk : Kc w w') : Zm B w' v z k := by
 obtain ⟨n1, zs, a, c, e, hm, rest⟩ := h
 refine ⟨n1, zs, a, c, e, ?_, rest⟩
 obtain ⟨hw, h | ⟨g, r, cap, h1, h2, h3, h4, h5, h6⟩⟩ := hm
 ·exact ⟨hw, .inl h⟩
 ·exact ⟨hw, .inr ⟨g, r, cap, h1, h2, h3, h4, h5, hk.2 g _ h6 rfl⟩⟩
theorem Zms.kc {w w' : World} {ps : List (Value × Value)} {zs : List Int} {k : Nat} (h : Zms w ps zs k) (hk : Kc w w') : Zms w' ps zs k := ⟨h.1, fun j p z hp hz => (h.2 j p z hp hz).kc hk⟩
/-- A sheet that is being made: its numbers have memory of their own. -/
def ShtM (B : Nat) (w : World) (lv : Value) (c : Nat) (gs : List Nat) (m : List (List Int)) (k : Nat) : Prop :=
 w.ownsRow B 22 1 lv gs.length (gs.map (rowv c)) ∧ Ones gs ∧ gs.length = m.length ∧ (∀ g ∈ gs, B ≤ g) ∧ Wide c m ∧ ∀ (j g : Nat), gs[j]? = some g → ∃ ps, Arr w g ps ∧ Zms w ps (rowAt m j) k
theorem ShtM.sht {B c k : Nat} {w : World} {lv : Value} {gs : List Nat} {m : List (List Int)} (h : ShtM B w lv c gs m k) : Sht B w lv c gs m k := by
 obtain ⟨h1, h2, h3, h4, h5, h6⟩ := h
 refine ⟨h1, h2, h3, h4, h5, fun j g hg => ?_⟩
 obtain ⟨ps, p1, p2⟩ := h6 j g hg
 exact ⟨ps, p1, p2.zcs⟩
theorem ShtM.kc {B c k : Nat} {w w' : World} {lv : Value} {gs : List Nat} {m : List (List Int)} (h : ShtM B w lv c gs m k) (hk : Kc w w') : ShtM B w' lv c gs m k := by
 obtain ⟨h1, h2, h3, h4, h5, h6⟩ := h
 refine ⟨?_, h2, h3, h4, h5, fun j g hg => ?_⟩
 ·obtain ⟨q1, q2 | ⟨g, cap, cur, q2, q3, q4, q5⟩⟩ := h1
  ·exact ⟨q1, .inl q2⟩
  ·exact ⟨q1, .inr ⟨g, cap, cur, q2, q3, hk.2 g _ q4 rfl, q5⟩⟩
 ·obtain ⟨ps, p1, p2⟩ := h6 j g hg
  exact ⟨ps, hk.arr p1, p2.kc hk⟩
theorem kc_below {X Y : World} (h : Below X.heap.size X Y) : Kc X Y := ⟨h.size, fun b o e _ => (h.block b (Array.getElem?_eq_some_iff.1 e).1).trans e⟩
theorem ShtM.nil (B : Nat) (w : World) (c k : Nat) : ShtM B w (.slice none 0 0) c [] [] k := ⟨World.ownsRow_nil _ _ _ _, fun i j g h => by simp at h, rfl, fun g h => by simp at h, fun r h => by simp at h, fun j g h => by simp at h⟩
/-- One row more. -/
theorem wpList_append_sht (w : World) {ops : Array Oper} {rest : List Oper} {o : Oper} {a : Act} {Q : Exit → Act → World → Prop}
  (hgd : o.guard = none) (s x : Operand) (hop : o.op = .call { callee := .builtin .append, args := #[s, x], argTypes := #[63, 63] })
  (B c k : Nat) (v : Value) (gs : List Nat) (m : List (List Int)) (hs : a.eval s = v) (hB : ShtM B w v c gs m k) (q gx : Nat) (hx : a.eval x = .slice (some ⟨q, 0, none⟩) 1 1) (hc0 : w.cell? ⟨q, 0, none⟩ = some (.slice (some ⟨gx, 0, none⟩) c c))
  (ps : List (Value × Value)) (zs : List Int) (hA : Arr w gx ps) (hz : Zms w ps zs k) (hzl : zs.length = c) (hgx : B ≤ gx) (hnew : ∀ g ∈ gs, g ≠ gx) (hlen : m.length < 64) (hBs : B ≤ w.heap.size)
  (hK : ∀ g' l' cap' w', Hid (ShtM B w' (.slice (some ⟨g', 0, none⟩) l' cap') c (gs ++ [gx]) (m ++ [zs]) k) → Hid (w.grownBy w' v.ownBlock) → Hid (∀ b, v.ownBlock = some b → B ≤ b ∧ ∃ L, w.heap[b]? = some (.cells L 22 (0, 0))) → wpList Tryz.prog ops Q rest (a.put o.dst (.slice (some ⟨g', 0, none⟩) l' cap')) w') :
  wpList Tryz.prog ops Q (o :: rest) a w := by
 obtain ⟨i, hii, hzz, hsz, hby⟩ := info_parts Tryz.infoL9
 obtain ⟨h1, h2, h3, h4, h5, h6⟩ := hB
 have ea : ∀ j, (⟨q, 0, none⟩ : Addr).add j = ⟨q, j, none⟩ := fun j => by unfold Addr.add; split <;> simp_all
 refine wpList_append_lies w hgd s x 63 hop B 22 i (.slice none 0 0) 1 24 Tryz.underlying63 hii hzz hsz hby rfl (by omega) v gs.length (gs.map (rowv c)) hs h1 ⟨q, 0, none⟩ 1 1 [rowv c gx] hx rfl ?_ ?_ (by omega) (by unfold maxLen; omega) (by omega) hBs w.heap.size rfl ?_
 ·intro j u' hj
  match j, hj with
  | 0, hj => simp at hj; subst hj; rw [ea]; exact hc0
 ·intro u' hu'
  simp at hu'
  subst hu'
  rfl
 ·intro g' cap' w' k1 k2 k3 k4
  have ht := Ty.grown h1 k2
  have hown : ∀ b, v.ownBlock = some b → B ≤ b ∧ ∃ L, w.heap[b]? = some (.cells L 22 (0, 0)) := fun b hb => by
   obtain ⟨_, ⟨r2, _⟩ | ⟨g2, cap, cur, r2, r3, r4, r5⟩⟩ := h1
   ·rw [r2] at hb; cases hb
   ·rw [r2] at hb
    simp only [Value.ownBlock, Option.some.injEq] at hb
    subst hb
    exact ⟨r3, cur, r4⟩
  refine hK g' _ cap' w' ⟨by rw [List.length_append, List.map_append]; exact k1, ?_, by simp [h3], ?_, ?_, fun j g hg => ?_⟩ k2 hown
  ·intro s t g hs ht
   have hs1 := (List.getElem?_eq_some_iff.1 hs).1
   have ht1 := (List.getElem?_eq_some_iff.1 ht).1
   simp at hs1 ht1
   by_cases p1 : s < gs.length
   ·rw [List.getElem?_append_left p1] at hs
    by_cases p2 : t < gs.length
    ·rw [List.getElem?_append_left p2] at ht
     exact h2 s t g hs ht
    ·rw [List.getElem?_append_right (by omega)] at ht
     have : t - gs.length = 0 := by omega
     rw [this] at ht
     simp at ht
     exact absurd ht.symm (hnew g (List.mem_of_getElem? hs))
   ·by_cases p2 : t < gs.length
    ·rw [List.getElem?_append_left p2] at ht
     rw [List.getElem?_append_right (by omega)] at hs
     have : s - gs.length = 0 := by omega
     rw [this] at hs
     simp at hs
     exact absurd hs.symm (hnew g (List.mem_of_getElem? ht))
    ·omega
  ·intro g hg
   rcases List.mem_append.1 hg with r | r
   ·exact h4 g r
   ·simp at r; subst r; exact hgx
  ·intro r hr
   rcases List.mem_append.1 hr with q' | q'
   ·exact h5 r q'
   ·simp at q'; subst q'; exact hzl
  ·have carry : ∀ g ps', Arr w g ps' → Arr w' g ps' := fun g ps' hA' => ⟨ht.2 g _ _ _ hA'.1 (by decide), hA'.2⟩
   by_cases p : j < gs.length
   ·rw [List.getElem?_append_left p] at hg
    obtain ⟨ps', r1, r2⟩ := h6 j g hg
    have e : rowAt (m ++ [zs]) j = rowAt m j := by simp [rowAt, List.getElem?_append_left (show j < m.length by omega)]
    rw [e]
    exact ⟨ps', carry _ _ r1, r2.ty ht (by decide)⟩
   ·have hj : j = gs.length := by have := (List.getElem?_eq_some_iff.1 hg).1; simp at this; omega
    subst hj
    simp at hg
    subst hg
    have e : rowAt (m ++ [zs]) gs.length = zs := by simp [rowAt, h3]
    rw [e]
    exact ⟨ps, carry _ _ hA, hz.ty ht (by decide)⟩
theorem AtL.own {k B : Nat} {m : List (List Int)} (s : Nat × List Nat) (x : Nat × Nat) : OwnFrom B (fun (_ : Unit) W => AtL k m s x W) := fun _ W W' row hs hg hr => by
 obtain ⟨h1, h2, h3, h4, h5, ps, h6, h7⟩ := hs
 have hk := kc_grown hg (fun r e => (hr r e).2)
 exact ⟨h1, h2, h3, Nat.le_trans h4 hg.size, h5, ps, hk.arr h6, h7.kc hk⟩
end Go.Proofs.YtnpcfohimlfbdaaGreat
namespace Go.Proofs.YtnpcfohimlfbdaaGreat
open Go.RowKit

/-- Only blocks of S have turned; new ones may be there. -/
structure Touch (S : Nat → Prop) (w w' : World) : Prop where
 os : w'.os = w.os
 tape : w'.tape = w.tape
 output : w'.output = w.output
 size : w.heap.size ≤ w'.heap.size
 block : ∀ k, k < w.heap.size → ¬ S k → w'.heap[k]? = w.heap[k]?
theorem Touch.refl (S : Nat → Prop) (w : World) : Touch S w w := ⟨rfl, rfl, rfl, Nat.le_refl _, fun _ _ _ => rfl⟩
theorem Touch.trans {S : Nat → Prop} {a b c : World} (h : Touch S a b) (k : Touch S b c) : Touch S a c :=
 ⟨k.os.trans h.os, k.tape.trans h.tape, k.output.trans h.output, Nat.le_trans h.size k.size, fun i hi hS => (k.block i (Nat.lt_of_lt_of_le hi h.size) hS).trans (h.block i hi hS)⟩
theorem Touch.ofBelow {S : Nat → Prop} {w w' : World} (h : Below w.heap.size w w') : Touch S w w' := ⟨h.os, h.tape, h.output, h.size, fun k hk _ => h.block k hk⟩
theorem Touch.setCell {S : Nat → Prop} {w0 w : World} (h : Touch S w0 w) {g : Nat} (hg : w0.heap.size ≤ g ∨ S g) (j : Nat) (x : Value) : Touch S w0 (w.setCell ⟨g, j, none⟩ x) := by
 have b := (Below.refl g w).setCell (p := ⟨g, j, none⟩) (Nat.le_refl _) x
 refine ⟨b.os.trans h.os, b.tape.trans h.tape, b.output.trans h.output, Nat.le_trans h.size b.size, fun k hk hS => ?_⟩
 rw [Below.heap_setCell w _ x k (fun e => by subst e; rcases hg with q | q; (· exact absurd hk (by omega)); exact hS q)]
 exact h.block k hk hS
theorem Touch.grown {S : Nat → Prop} {w0 w w' : World} {row : Option Nat} (h : Touch S w0 w) (hg : w.grownBy w' row) (hr : ∀ k, row = some k → w0.heap.size ≤ k ∨ S k) : Touch S w0 w' :=
 ⟨hg.os.trans h.os, hg.tape.trans h.tape, hg.output.trans h.output, Nat.le_trans h.size hg.size, fun k hk hS => by
  rw [hg.block k (Nat.lt_of_lt_of_le hk h.size) (fun e => by rcases hr k e.symm with q | q; (· omega); exact hS q)]
  exact h.block k hk hS⟩
end Go.Proofs.YtnpcfohimlfbdaaGreat
namespace Go.Proofs.YtnpcfohimlfbdaaGreat

end Go.Proofs.YtnpcfohimlfbdaaGreat
