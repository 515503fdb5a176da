/-
 QNs14ToSm14: Ns14, Sm14, joined.
-/
import Derived.Test.YtplldfnldaehiaaGreatQDo14ToIx14
import Derived.Test.YtplldfnldaehiaaGreatQRn14ToIt14
import Derived.Test.YtplldfnldaehiaaGreatQRf11ToWk9

set_option maxRecDepth 100000
set_option maxHeartbeats 6400000
set_option linter.unusedVariables false
set_option linter.unusedSimpArgs false
namespace Go.Proofs.YtplldfnldaehiaaGreat
open Go.RowKit
theorem up_le14 {n : Nat} : ∀ {l : List Nat}, l.Pairwise (· < ·) → (∀ x ∈ l, x < n) → ∀ t, t < l.length → l.getD t 0 + (l.length - t) ≤ n
 | [], _, _, t, ht => by simp at ht
 | a :: m, hp, hn, 0, _ => by
  show a + (m.length + 1) ≤ n
  match m, hp, hn with
  | [], _, hn =>
   have := hn a (by simp)
   show a + (0 + 1) ≤ n
   omega
  | b :: m', hp, hn =>
   have hp' := List.pairwise_cons.1 hp
   have h1 := up_le14 (n := n) hp'.2 (fun x hx => hn x (by simp [hx])) 0 (by simp)
   have h2 := hp'.1 b (by simp)
   simp at h1 ⊢
   omega
 | a :: m, hp, hn, t + 1, ht => by
  have hp' := List.pairwise_cons.1 hp
  have h1 := up_le14 (n := n) hp'.2 (fun x hx => hn x (by simp [hx])) t (by simpa using ht)
  simp at h1 ⊢
  omega
theorem wn_wf {l : List Nat} {k : Nat} (hl : l.length = k) : (l.map fun (a : Nat) => Value.int .i64 (a : Int)) = wf k (nf l) := by
 apply List.ext_getElem?
 intro t
 by_cases q : t < k
 ·rw [wf_at q]
  have : t < l.length := by omega
  simp [nf, this]
 ·rw [List.getElem?_eq_none (by simp; omega), List.getElem?_eq_none (by simp [wf]; omega)]
theorem wf_len (k : Nat) (F : Nat → Int) : (wf k F).length = k := by simp [wf]
theorem Ivs.cel14 {B g n cap : Nat} {w : World} {l : List Nat} (h : Ivs B w (.slice (some ⟨g, 0, none⟩) n cap) l) : ∃ r, Cel w g 3 (wf l.length (nf l) ++ r) ∧ l.length + r.length = cap ∧ cap ≤ maxLen ∧ B ≤ g ∧ n = l.length := by
 obtain ⟨q1, ⟨q2, q3⟩ | ⟨g', cap', cur, q2, q3, q4, q5, q6, q7, q8⟩⟩ := h
 ·cases q2
 ·simp only [Value.slice.injEq, Option.some.injEq, Addr.mk.injEq, and_true] at q2
  obtain ⟨rfl, rfl, rfl⟩ := q2
  refine ⟨cur.toList.drop l.length, ?_, ?_, q6, q3, rfl⟩
  ·unfold Cel
   rw [Nat.mul_one] at q8
   rw [← wn_wf rfl, ← q8, List.take_append_drop]
   exact q4
  ·have h7 : cur.toList.length = cap := by rw [Array.length_toList, q7, Nat.mul_one]
   rw [List.length_drop, h7]
   omega
theorem Ivs.of14 {B g cap k : Nat} {w : World} {l : List Nat} {r : List Value} (h : Cel w g 3 (wf k (nf l) ++ r)) (hl : l.length = k) (h1 : k + r.length = cap) (h2 : cap ≤ maxLen) (h3 : B ≤ g) : Ivs B w (.slice (some ⟨g, 0, none⟩) k cap) l := by
 subst hl
 refine ⟨by simp, .inr ⟨g, cap, _, rfl, h3, h, by omega, h2, by simp [wf_len]; omega, ?_⟩⟩
 rw [wn_wf rfl]
 simp only [Nat.mul_one]
 rw [List.take_append_of_le_length (by rw [wf_len]; exact Nat.le_refl _), List.take_of_length_le (by rw [wf_len]; exact Nat.le_refl _)]
theorem Cel.nr {w : World} {g k i : Nat} {F : Nat → Int} {r : List Value} (h : Cel w g 3 (wf k F ++ r)) (hi : i < k) : w.cell? ⟨g, i, none⟩ = some (.int .i64 (F i)) := h.at (by rw [List.getElem?_append_left (by rw [wf_len]; exact hi)]; exact wf_at hi)
theorem Cel.nrset {w : World} {g k i : Nat} {F : Nat → Int} {r : List Value} (h : Cel w g 3 (wf k F ++ r)) (hi : i < k) (z : Int) : Cel (w.setCell ⟨g, i, none⟩ (.int .i64 z)) g 3 (wf k (upF F i z) ++ r) := by
 rw [← wf_set hi z, ← List.set_append_left i _ (by rw [wf_len]; exact hi)]
 exact h.set i _
theorem wpList_append_list14 (w : World) {ops : Array Oper} {rest : List Oper} {o : Oper} {a : Act} {Q : Exit → Act → World → Prop}
  (hgd : o.guard = none) (s x : Operand) (hop : o.op = .call { callee := .builtin .append, args := #[s, x], argTypes := #[34, 34] })
  (B B' : Nat) (v : Value) (hs : a.eval s = v) (hP : Ivs B w v []) (g k c : Nat) (l : List Nat) (hx : a.eval x = .slice (some ⟨g, 0, none⟩) k c) (hc : Ivs B' w (.slice (some ⟨g, 0, none⟩) k c) l) (hl : l.length = k) (hk : k ≤ 4096) (hk0 : 0 < k) (hBs : B ≤ w.heap.size)
  (hK : ∀ g' cap' w', Hid (Ivs B w' (.slice (some ⟨g', 0, none⟩) k cap') l) → Hid (w.grownBy w' v.ownBlock) → wpList Tryz.prog ops Q rest (a.put o.dst (.slice (some ⟨g', 0, none⟩) k cap')) w') :
  wpList Tryz.prog ops Q (o :: rest) a w := by
 refine wpList_plain hgd fun K hK' => ?_
 obtain ⟨i, hi, hz, hsz, hby⟩ := info_parts Tryz.infoI13
 obtain ⟨r, hr, hrc, hcm, -, -⟩ := hc.cel14
 have hnews : ∀ j u, (l.map fun (a : Nat) => Value.int .i64 (a : Int))[j]? = some u → w.cell? ((⟨g, 0, none⟩ : Addr).add j) = some u := fun j u hj => by
  have hj' : j < l.length := by
   have := (List.getElem?_eq_some_iff.1 hj).1
   rw [List.length_map] at this
   exact this
  rw [head_add13, hr.nr hj']
  show some (Value.int .i64 ((l.getD j 0 : Nat) : Int)) = some u
  simp [hj'] at hj ⊢
  exact hj
 obtain ⟨v', w', hr, k1, k2, -, -⟩ := run_append_own_at (P := Tryz.prog) w B 34 o.type 3 i (.int .i64 0) 1 8 Tryz.underlying34 hi hz hsz hby rfl (by omega) v 0 [] (by have := hP; unfold Ivs at this; simpa using this) ⟨g, 0, none⟩ k c _ (by rw [List.length_map, hl, Nat.mul_one]) hnews (fun u hu => by
  obtain ⟨_, _, rfl⟩ := List.mem_map.1 hu
  rfl) (by unfold maxLen; omega) (by omega) hBs
 have hI : Ivs B w' v' l := by
  unfold Ivs
  rw [hl]
  rw [Nat.zero_add, List.nil_append] at k1
  exact k1
 obtain ⟨a', c', rfl, -, hf⟩ := hI.form
 obtain ⟨g', rfl⟩ := hf (by omega)
 rw [hl] at hI hr
 unfold Oper.wp execOp
 simp only [hop, resolve, invoke, builtin, Sem.run_bind, Sem.run_pure, Result.andThen_ok, List.map_toArray, List.map_cons, List.map_nil, hs, hx, hr]
 exact hK' _ _ (hK g' c' w' hI k2)
def Nexted (w : World) (n k : Nat) (l : List Nat) (e : Ending) (w' : World) : Prop :=
 (nxt n l = none ∧ e = .returned (.slice none 0 0) ∧ w' = w) ∨ ∃ l' g cap, nxt n l = some l' ∧ l'.length = k ∧ 0 < k ∧ e = .returned (.slice (some ⟨g, 0, none⟩) k cap) ∧ Ivs w.heap.size w' (.slice (some ⟨g, 0, none⟩) k cap) l' ∧ Below w.heap.size w w'
def NxH (w : World) (l : List Nat) (n k gk : Nat) (s6 : Value) (wx : World) : Prop :=
 ∃ u : Nat, s6 = .int .i64 ((u : Int) - 1) ∧ u ≤ k ∧ gk = u ∧ (∀ j, u ≤ j → j < k → n ≤ l.getD j 0 + (k - j)) ∧ wx = w
def NwH (w : World) (g : Nat) (l : List Nat) (r : List Value) (i k gk : Nat) (s8 : Value) (wx : World) : Prop :=
 ∃ v : Nat, s8 = .int .i64 (v : Int) ∧ i < v ∧ v ≤ k ∧ gk = k - v ∧ Cel wx g 3 (wf k (sqF l i v) ++ r) ∧ Below w.heap.size w wx
theorem next_any {B : Nat} {w : World} {v : Value} {k n : Nat} {l : List Nat} (hv : Ivs B w v l) (hl : l.length = k) (hk : k ≤ 64) (hn : n ≤ 64) (hup : ∀ t, t < k → l.getD t 0 + (k - t) ≤ n) :
  Calls Tryz.prog 46 #[v, .int .i64 (n : Int)] w (Nexted w n k l) := by
 obtain ⟨av, cv, rfl, hcv, hav⟩ := hv.form
 have VV := hid hv
 have HAV := hid hav
 rw [hl] at VV HAV hcv ⊢
 have HL := hid hl
 have HUP := hid hup
 have H1 : Hid (NxH w l n k k (.int .i64 ((k : Int) - 1)) w) := ⟨k, rfl, Nat.le_refl _, rfl, fun j h1 h2 => by omega, rfl⟩
 have hw2 : IntKind.i64.wrap ((k : Int) - 1) = (k : Int) - 1 := by rw [wrap_is] <;> omega
 clear hv hav hl hup
 go_enter Tryz.func46, Tryz.ntmps46
 go_wp2_with fail
 clear hw2
 go_loopg [6] k (fun gk s6 wx => NxH w l n k gk s6 wx)
 case atStart => exact H1.out
 case round =>
  clear H1
  obtain ⟨u, rfl, huk, hg, hh, hwx⟩ := hrel
  rw [hwx]
  clear hwx wr
  have HG := hid hg
  have HH := hid hh
  clear hg hh
  by_cases hu : u = 0
  ·subst hu
   have e1 : ((0 : Nat) : Int) - 1 = -1 := by omega
   rw [e1]
   have FIN : Hid (Nexted w n k l (.returned (.slice none 0 0)) w) := .inl ⟨nxt_high fun i hi => by
    have := HH.out i (by omega) (by rw [← HL.out]; exact hi)
    rw [HL.out]; exact this, rfl, rfl⟩
   clear HG HH VV HL HUP HAV e1
   go_wp2
   go_ret
   exact FIN.out
  ·obtain ⟨i, rfl⟩ : ∃ i, u = i + 1 := ⟨u - 1, by omega⟩
   have ei : ((i + 1 : Nat) : Int) - 1 = (i : Int) := by omega
   rw [ei]
   have hik : i < k := by omega
   have hik' : (i : Int) < (k : Int) := by omega
   obtain ⟨g, rfl⟩ := HAV.out (by omega)
   have c0 := VV.out.at (i := i) (by rw [HL.out]; exact hik)
   obtain ⟨x, hx⟩ : ∃ x, l.getD i 0 = x := ⟨_, rfl⟩
   rw [hx] at c0
   have hup := HUP.out i hik
   rw [hx] at hup
   have HX := hid hx
   have hi0 : (0 : Int) ≤ (i : Int) := by omega
   have hwa : IntKind.i64.wrap ((n : Int) - (k : Int)) = (n : Int) - (k : Int) := by rw [wrap_is] <;> omega
   have hwb : IntKind.i64.wrap ((n : Int) - (k : Int) + (i : Int)) = (n : Int) - (k : Int) + (i : Int) := by rw [wrap_is] <;> omega
   clear hu ei hx
   by_cases heq : (x : Int) = (n : Int) - (k : Int) + (i : Int)
   ·have hbe : ((x : Int) == (n : Int) - (k : Int) + (i : Int)) = true := by simp [heq]
    have hwi : IntKind.i64.wrap ((i : Int) - 1) = (i : Int) - 1 := by rw [wrap_is] <;> omega
    have HN1 : Hid (NxH w l n k i (.int .i64 ((i : Int) - 1)) w) := ⟨i, rfl, by omega, rfl, fun j h1 h2 => by
     by_cases q : j = i
     ·subst q; rw [HX.out]; omega
     ·exact HH.out j (by omega) h2, rfl⟩
    have HMM : Hid (i < gk) := by unfold Hid; rw [HG.out]; omega
    clear HG HH heq
    go_wp2_with fail
    go_roundg i
    case rel => exact HN1.out
    case measure => exact HMM.out
   ·have hbe : ((x : Int) == (n : Int) - (k : Int) + (i : Int)) = false := by simp; exact heq
    have hneg : ¬ (i : Int) < 0 := by omega
    have HNX : Hid (nxt n l = some (l.take i ++ seqN (x + 1) (k - i))) := by
     unfold Hid
     have := nxt_at (n := n) (i := i) (l := l) (by rw [HL.out]; exact hik) (by rw [HL.out, HX.out]; omega) (fun j h1 h2 => by
      rw [HL.out] at h2 ⊢
      exact HH.out j (by omega) h2)
     rw [HL.out, HX.out] at this
     exact this
    obtain ⟨V, hV⟩ : ∃ V, w.alloc (.cells #[] 3) = V := ⟨_, rfl⟩
    obtain ⟨bv, szv⟩ := alo1 w (.cells #[] 3)
    rw [hV] at bv szv
    have IV : Hid (Ivs w.heap.size V (.slice (some ⟨w.heap.size, 0, none⟩) 0 0) []) := by
     unfold Hid Ivs
     refine ⟨by simp, .inr ⟨w.heap.size, 0, #[], by simp, Nat.le_refl _, ?_, Nat.le_refl _, Nat.zero_le _, by simp, by simp⟩⟩
     rw [← hV]
     exact heap_alloc_new w _
    have VV2 := hid (VV.out.now bv)
    have BV := hid bv
    have EV := hid hV
    have hk0 : 0 < k := by omega
    clear HG HH VV heq bv szv hV
    go_wp2_with (at_builtin; rw [EV.out]; refine wpList_append_list14 V rfl (.tmp 31) (.tmp 32) rfl w.heap.size B _ rfl IV.out g k cv l rfl VV2.out HL.out (by omega) hk0 BV.out.size ?_)
    intro g' cap' w3 hI hg
    have B3 := hid (below_own BV.out BV.out.size IV.out hg.out)
    obtain ⟨r, hr, hrc, hcm, hBg, -⟩ := hI.out.cel14
    rw [HL.out] at hr hrc
    have CR := hid hr
    have hkc : k ≤ cap' := by omega
    have HRC := hid hrc
    have HCM := hid hcm
    have HBG := hid hBg
    have c1 : w3.cell? ⟨g', i, none⟩ = some (.int .i64 (x : Int)) := by rw [CR.out.nr hik]; show some (Value.int .i64 ((l.getD i 0 : Nat) : Int)) = _; rw [HX.out]
    have f1 := CR.out.fz i
    have hwx := wrapI9 (i := x) (by omega)
    have H2 : Hid (NwH w g' l r i k (k - (i + 1)) (.int .i64 ((i + 1 : Nat) : Int)) (w3.setCell ⟨g', i, none⟩ (.int .i64 ((x + 1 : Nat) : Int)))) := ⟨i + 1, rfl, by omega, by omega, rfl, by
     have := CR.out.nrset hik ((l.getD i 0 + 1 + (i - i) : Nat) : Int)
     rw [wf_congr fun t _ => (show upF (nf l) i _ t = sqF l i (i + 1) t by
      rw [← sqF_put (Nat.le_refl i) t]
      unfold upF
      rw [sqF_zero]), HX.out, Nat.sub_self, Nat.add_zero] at this
     exact this, bset B3.out HBG.out⟩
    have hwj := wrapI9 (i := i) (by omega)
    clear IV VV2 BV EV hI hg hr hrc hcm hBg CR c0
    go_wp2_with fail
    go_loopg [8] (k - (i + 1)) (fun gk s8 wx => NwH w g' l r i k gk s8 wx)
    case atStart => exact H2.out
    case round =>
     clear H2 c1 f1
     obtain ⟨v, rfl, hiv, hvk, hg, hcv, htv⟩ := hrel
     have CV := hid hcv
     have TV := hid htv
     have HG := hid hg
     clear hg hcv htv
     by_cases hlv : v < k
     ·have hlv' : (v : Int) < (k : Int) := by omega
      have hwv := wrapI9 (i := v) (by omega)
      have hwm : IntKind.i64.wrap ((v : Int) - 1) = ((v - 1 : Nat) : Int) := by rw [wrap_is] <;> omega
      have hvm : v - 1 < k := by omega
      have hvm' : ((v - 1 : Nat) : Int) < (k : Int) := by omega
      have e0 : wr.cell? ⟨g', v - 1, none⟩ = some (.int .i64 ((x + (v - i) : Nat) : Int)) := by
       rw [CV.out.nr hvm]
       show some (Value.int .i64 (sqF l i v (v - 1))) = _
       unfold sqF
       rw [if_neg (by omega), if_pos (by omega), HX.out]
       congr 2
       omega
      have e2 := CV.out.nr hlv
      have e1 := CV.out.fz v
      obtain ⟨y, hy⟩ : ∃ y, x + (v - i) = y := ⟨_, rfl⟩
      rw [hy] at e0
      have hyb : y ≤ 1000000 := by omega
      have hwy := wrapI9 (i := y) (by omega)
      have HN1 : Hid (NwH w g' l r i k (k - (v + 1)) (.int .i64 ((v + 1 : Nat) : Int)) (wr.setCell ⟨g', v, none⟩ (.int .i64 ((y + 1 : Nat) : Int)))) := ⟨v + 1, rfl, by omega, by omega, rfl, by
       have := CV.out.nrset hlv ((l.getD i 0 + 1 + (v - i) : Nat) : Int)
       rw [wf_congr fun t _ => sqF_put (by omega) t, HX.out, show x + 1 + (v - i) = y + 1 by omega] at this
       exact this, bset TV.out HBG.out⟩
      have HMM : Hid (k - (v + 1) < gk) := by unfold Hid; rw [HG.out]; omega
      have hlc : (v : Int) < (cap' : Int) := by omega
      clear CV TV HG hy
      go_wp2_with fail
      go_roundg (k - (v + 1))
      case rel => exact HN1.out
      case measure => exact HMM.out
     ·have hlv' : ¬ (v : Int) < (k : Int) := by omega
      obtain rfl : v = k := by omega
      have FIN : Hid (Nexted w n v l (.returned (.slice (some ⟨g', 0, none⟩) v cap')) wr) := by
       have hlen : (l.take i ++ seqN (x + 1) (v - i)).length = v := by
        rw [List.length_append, List.length_take, seqN_len, HL.out]; omega
       refine .inr ⟨_, g', cap', HNX.out, hlen, hk0, rfl, Ivs.of14 (r := r) ?_ hlen HRC.out HCM.out HBG.out, TV.out⟩
       have := CV.out
       rw [wf_congr fun t ht => sqF_end (by omega) HL.out ht, HX.out] at this
       exact this
      clear CV TV HG HNX HRC HCM HBG
      go_wp2
      go_ret
      exact FIN.out
def LLs (B E : Nat) (w : World) (v : Value) (ls : List (List Nat)) : Prop :=
 ∃ vs : List Value, w.ownsRow B 34 1 v ls.length vs ∧ vs.length = ls.length ∧ ∀ (j : Nat) (u : Value) (l : List Nat), vs[j]? = some u → ls[j]? = some l → Ivs E w u l
theorem LLs.nil (B E : Nat) (w : World) : LLs B E w (.slice none 0 0) [] := ⟨[], World.ownsRow_nil _ _ _ _, rfl, fun j u l h => by simp at h⟩
theorem LLs.now {B E : Nat} {w w' : World} {v : Value} {ls : List (List Nat)} (h : LLs B E w v ls) (hb : Below w.heap.size w w') : LLs B E w' v ls := by
 obtain ⟨vs, h1, h2, h3⟩ := h
 exact ⟨vs, owns_keep h1 fun b _ hlt => hb.block b hlt, h2, fun j u l hu hl => (h3 j u l hu hl).now hb⟩
theorem LLs.form {B E : Nat} {w : World} {v : Value} {ls : List (List Nat)} (h : LLs B E w v ls) : ∃ a cap, v = .slice a ls.length cap ∧ ls.length ≤ cap ∧ (0 < ls.length → ∃ g, a = some ⟨g, 0, none⟩) := by
 obtain ⟨vs, ⟨q1, ⟨q2, q3⟩ | ⟨g, cap, cur, q2, q3, q4, q5, q6⟩⟩, -, -⟩ := h
 ·exact ⟨none, 0, by rw [q2, q3], by omega, fun q => by omega⟩
 ·exact ⟨_, cap, q2, by omega, fun _ => ⟨g, rfl⟩⟩
theorem LLs.blk {B E b : Nat} {w : World} {v : Value} {ls : List (List Nat)} (h : LLs B E w v ls) (hb : v.ownBlock = some b) : B ≤ b ∧ ∃ L, w.heap[b]? = some (.cells L 34 (0, 0)) := by
 obtain ⟨vs, ⟨_, ⟨r2, _⟩ | ⟨g2, cap, cur, r2, r3, r4, r5⟩⟩, -, -⟩ := h
 ·rw [r2] at hb; cases hb
 ·rw [r2] at hb
  simp only [Value.ownBlock, Option.some.injEq] at hb
  subst hb
  exact ⟨r3, cur, r4⟩
theorem LLs.mono {B B' E E' : Nat} {w : World} {v : Value} {ls : List (List Nat)} (h : LLs B E w v ls) (hb : B' ≤ B) (he : E' ≤ E) : LLs B' E' w v ls := by
 obtain ⟨vs, h1, h2, h3⟩ := h
 exact ⟨vs, owns_mono11 h1 hb, h2, fun j u l hu hl => owns_le14 (h3 j u l hu hl) he⟩
theorem LLs.at {B E g n cap : Nat} {w : World} {ls : List (List Nat)} (h : LLs B E w (.slice (some ⟨g, 0, none⟩) n cap) ls) {i : Nat} {l : List Nat} (hi : ls[i]? = some l) : ∃ u, w.cell? ⟨g, i, none⟩ = some u ∧ Ivs E w u l := by
 obtain ⟨vs, h1, h2, h3⟩ := h
 have hlt : i < ls.length := (List.getElem?_eq_some_iff.1 hi).1
 have hv : i < vs.length := by omega
 have h0 := h1
 obtain ⟨q1, ⟨q2, q3⟩ | ⟨g', cap', cur, q2, q3, q4, q5, q6⟩⟩ := h1
 ·cases q2
 ·simp only [Value.slice.injEq, Option.some.injEq, Addr.mk.injEq, and_true] at q2
  obtain ⟨rfl, rfl, rfl⟩ := q2
  have hu : vs[i]? = some vs[i] := List.getElem?_eq_getElem hv
  refine ⟨vs[i], ?_, h3 i _ l hu hi⟩
  rw [h0.cellAt i (by omega)]
  exact hu
theorem Tryz.infoLI14 : (Tryz.prog.info? 34).map (fun i => (i.zero, i.size, i.bytes)) = some (some (.slice none 0 0), 1, 24) := by kernel_rfl
theorem wpList_append_lls (w : World) {ops : Array Oper} {rest : List Oper} {o : Oper} {a : Act} {Q : Exit → Act → World → Prop}
  (hgd : o.guard = none) (s x : Operand) (hop : o.op = .call { callee := .builtin .append, args := #[s, x], argTypes := #[32, 32] })
  (B E : Nat) (v : Value) (ls : List (List Nat)) (u : Value) (l : List Nat) (hs : a.eval s = v) (hP : LLs B E w v ls) (hu : Ivs E w u l) (gx : Nat) (hx : a.eval x = .slice (some ⟨gx, 0, none⟩) 1 1) (hc : w.cell? ⟨gx, 0, none⟩ = some u) (hlen : ls.length ≤ 1000000) (hBs : B ≤ w.heap.size)
  (hK : ∀ g' cap' w', Hid (LLs B E w' (.slice (some ⟨g', 0, none⟩) (ls.length + 1) cap') (ls ++ [l])) → Hid (w.grownBy w' v.ownBlock) → Hid (v.ownBlock = some g' ∨ g' = w.heap.size) → wpList Tryz.prog ops Q rest (a.put o.dst (.slice (some ⟨g', 0, none⟩) (ls.length + 1) cap')) w') :
  wpList Tryz.prog ops Q (o :: rest) a w := by
 obtain ⟨i, hi, hz, hsz, hby⟩ := info_parts Tryz.infoLI14
 have hPP := hP
 obtain ⟨vs, p1, p2, p3⟩ := hP
 obtain ⟨ua, uc, hue, -, -⟩ := hu.form
 refine wpList_append_lies w hgd s x 32 hop B 34 i (.slice none 0 0) 1 24 Tryz.underlying32 hi hz hsz hby rfl (by omega) v ls.length _ hs p1 ⟨gx, 0, none⟩ 1 1 [u] hx rfl ?_ ?_ (by omega) (by unfold maxLen; omega) (by omega) hBs w.heap.size rfl ?_
 ·intro j u' hj
  match j, hj with
  | 0, hj => simp at hj; subst hj; rw [head_add13]; exact hc
 ·intro u' hu'
  simp at hu'
  subst hu'
  rw [hue]
  rfl
 ·intro g' cap' w' k1 k2 k3 k4
  have tg : Ty 34 w w' := ⟨k2.size, fun b L T fr e hne => (k2.block b (Array.getElem?_eq_some_iff.1 e).1 (fun q => by
   obtain ⟨_, L', e'⟩ := hPP.blk q.symm
   rw [e', Option.some.injEq, Obj.cells.injEq] at e
   exact hne e.2.1.symm)).trans e⟩
  refine hK _ _ w' ⟨vs ++ [u], ?_, by simp [p2], fun j u' l' hu' hl' => ?_⟩ k2 k3
  ·rw [List.length_append, List.length_cons, List.length_nil]
   exact k1
  ·by_cases q : j < ls.length
   ·rw [List.getElem?_append_left (by omega)] at hu'
    rw [List.getElem?_append_left q] at hl'
    exact (p3 j u' l' hu' hl').keep fun b L _ e => tg.2 b _ _ _ e (by decide)
   ·have hj : j = ls.length := by
     have := (List.getElem?_eq_some_iff.1 hl').1
     simp at this
     omega
    subst hj
    rw [List.getElem?_append_right (by omega), ← p2, Nat.sub_self] at hu'
    rw [List.getElem?_append_right (by omega), Nat.sub_self] at hl'
    simp at hu' hl'
    subst hu' hl'
    exact hu.keep fun b L _ e => tg.2 b _ _ _ e (by decide)
theorem below_lls {B E : Nat} {w0 w w' : World} {v : Value} {ls : List (List Nat)} (h : Below B w0 w) (hB : B ≤ w.heap.size) (ho : LLs B E w v ls) (hg : w.grownBy w' v.ownBlock) : Below B w0 w' :=
 h.trans ⟨hg.os, hg.tape, hg.output, hg.size, fun k hk => hg.block k (by omega) (fun e => by have := (ho.blk e.symm).1; omega)⟩
def SfH (w : World) (k gk : Nat) (s9 : Value) (wx : World) : Prop := ∃ i : Nat, s9 = .int .i64 (i : Int) ∧ i ≤ k ∧ gk = k - i ∧ Cel wx w.heap.size 3 (wf k fun t => if t < i then (t : Int) else 0) ∧ Below w.heap.size w wx
def SmH (w : World) (n k m gk : Nat) (s7 s8 : Value) (wx : World) : Prop := ∃ t : Nat, t < (sts14 n k).length ∧ t ≤ m ∧ gk = m - t ∧ LLs w.heap.size w.heap.size wx s7 ((sts14 n k).take t) ∧ Ivs w.heap.size wx s8 ((sts14 n k).getD t []) ∧ Below w.heap.size w wx
theorem take_app14 {ls : List (List Nat)} {t : Nat} (ht : t < ls.length) : ls.take t ++ [ls.getD t []] = ls.take (t + 1) := by
 rw [List.take_add_one, List.getD_eq_getElem?_getD, List.getElem?_eq_getElem ht]
 rfl
theorem some_any {w : World} {n k m : Nat} (hn : n ≤ 64) (hk : k ≤ n) (hm : 1 ≤ m) (hm2 : m ≤ 1000000) :
  Calls Tryz.prog 27 #[.int .i64 (n : Int), .int .i64 (k : Int), .int .i64 (m : Int)] w fun e w' => ∃ v, e = .returned v ∧ LLs w.heap.size w.heap.size w' v ((sts14 n k).take m) ∧ Below w.heap.size w w' := by
 have q0 : decide ((n : Int) < 0) = false := decide_eq_false (by omega)
 have q1 : decide ((64 : Int) < (n : Int)) = false := decide_eq_false (by omega)
 have q2 : decide ((k : Int) < 0) = false := decide_eq_false (by omega)
 have q3 : decide ((n : Int) < (k : Int)) = false := decide_eq_false (by omega)
 have q4 : decide ((m : Int) < 1) = false := decide_eq_false (by omega)
 go_enter Tryz.func27, Tryz.ntmps27
 go_wp2_with (at_make; refine wpList_make_nf _ rfl _ _ rfl _ _ k k rfl rfl rfl rfl (Nat.le_refl _) (by omega) ?_)
 clear q0 q1 q2 q3 q4
 intro w1 hrow hb1 hsz1
 have H0 : Hid (SfH w k k (.int .i64 0) w1) := ⟨0, rfl, Nat.zero_le _, rfl, by rw [wf_congr (G := fun _ => 0) fun t _ => if_neg (Nat.not_lt_zero _)]; exact hrow.out, hb1.out⟩
 clear hrow hb1 hsz1
 go_wp2_with fail
 go_loopg [9] k (fun gk s9 wx => SfH w k gk s9 wx)
 case atStart => exact H0.out
 case round =>
  clear H0
  obtain ⟨i, rfl, hik, hg, hc, hb⟩ := hrel
  have C := hid hc
  have G := hid hb
  have HG := hid hg
  clear hc hb hg
  by_cases hlt : i < k
  ·have hlt' : (i : Int) < (k : Int) := by omega
   have hw := wrapI9 (i := i) (by omega)
   have e0 := C.out.nf hlt
   have e1 := C.out.fz i
   have HN1 : Hid (SfH w k (k - (i + 1)) (.int .i64 ((i + 1 : Nat) : Int)) (wr.setCell ⟨w.heap.size, i, none⟩ (.int .i64 (i : Int)))) :=
    ⟨i + 1, rfl, by omega, rfl, by
     have := C.out.nfset hlt (i : Int)
     rw [wf_congr (G := fun t => if t < i + 1 then (t : Int) else 0) fun t ht => ?_] at this
     ·exact this
     ·show (if t = i then (i : Int) else if t < i then (t : Int) else 0) = if t < i + 1 then (t : Int) else 0
      by_cases q : t = i
      ·rw [if_pos q, if_pos (by omega), q]
      ·rw [if_neg q]
       by_cases q2 : t < i
       ·rw [if_pos q2, if_pos (by omega)]
       ·rw [if_neg q2, if_neg (by omega)], bset G.out (Nat.le_refl _)⟩
   have HMM : Hid (k - (i + 1) < gk) := by unfold Hid; rw [HG.out]; omega
   clear C G HG
   go_wp2_with fail
   go_roundg (k - (i + 1))
   case rel => exact HN1.out
   case measure => exact HMM.out
  ·have hlt' : ¬ (i : Int) < (k : Int) := by omega
   obtain rfl : i = k := by omega
   obtain ⟨hf1, hf2⟩ := sts_first hk
   have CF : Hid (SmH w n i m m (.slice none 0 0) (.slice (some ⟨w.heap.size, 0, none⟩) i i) wr) := by
    refine ⟨0, hf2, Nat.zero_le _, rfl, LLs.nil _ _ _, ?_, G.out⟩
    rw [hf1]
    refine Ivs.of14 (r := []) ?_ (by simp) (by simp) (by unfold maxLen; omega) (Nat.le_refl _)
    rw [List.append_nil, wf_congr (G := fun t => if t < i then (t : Int) else 0) fun t ht => by rw [if_pos ht]; simp [nf, ht]]
    exact C.out
   clear C HG G hf1 hf2
   go_wp2_with fail
   go_loopg [7, 8] m (fun gk s7 s8 wx => SmH w n i m gk s7 s8 wx)
   case atStart => exact CF.out
   case round =>
    clear CF
    obtain ⟨t, htN, htm, hg, hL, hI, hb⟩ := hrel
    have LL := hid hL
    have II := hid hI
    have BB := hid hb
    have HG := hid hg
    obtain ⟨sm1, sm2, sm3⟩ := sts_mem htN
    have HTN := hid htN
    have SM := hid (⟨sm1, sm2, sm3⟩ : ((sts14 n i).getD t []).length = i ∧ ((sts14 n i).getD t []).Pairwise (· < ·) ∧ ∀ x ∈ (sts14 n i).getD t [], x < n)
    have HNX := hid (sts_run hk htN)
    obtain ⟨al, cl, rfl, -, -⟩ := hL.form
    obtain ⟨aS, cs, rfl, -, -⟩ := hI.form
    have etl : ((sts14 n i).take t).length = t := by rw [List.length_take]; omega
    rw [etl] at LL ⊢
    rw [sm1] at II ⊢
    have ETL := hid etl
    have TAP := hid (take_app14 htN)
    obtain ⟨ll, hll⟩ : ∃ ll, (sts14 n i).getD t [] = ll := ⟨_, rfl⟩
    rw [hll] at II SM HNX TAP
    obtain ⟨tk, htk⟩ : ∃ tk, (sts14 n i).take t = tk := ⟨_, rfl⟩
    rw [htk] at LL ETL TAP
    clear hL hI hb hg htN sm1 sm2 sm3 etl hll htk
    by_cases hlt2 : t < m
    ·have hlt2' : (t : Int) < (m : Int) := by omega
     obtain ⟨V, hV⟩ : ∃ V, wr.alloc (.cells #[.slice aS i cs] 34) = V := ⟨_, rfl⟩
     obtain ⟨bv, szv⟩ := alo1 wr (.cells #[.slice aS i cs] 34)
     rw [hV] at bv szv
     have CV : Hid (V.cell? ⟨wr.heap.size, 0, none⟩ = some (.slice aS i cs)) := by unfold Hid; rw [← hV]; exact (Cel.new wr 34 [.slice aS i cs]).at (i := 0) rfl
     have LV := hid (LL.out.now bv)
     have IV := hid (II.out.now bv)
     have BV := hid (below_step BB.out bv)
     have EV := hid hV
     have HL : Hid (tk.length ≤ 1000000) := by unfold Hid; rw [ETL.out]; omega
     clear bv szv hV LL II BB
     go_wp2_with (at_builtin; rw [EV.out]; refine wpList_append_lls V rfl (.tmp 45) (.tmp 47) rfl w.heap.size w.heap.size _ _ _ _ rfl LV.out IV.out wr.heap.size rfl CV.out HL.out BV.out.size ?_)
     intro g' cap' w3 hL3 hg3 hb3
     rw [ETL.out] at hL3 ⊢
     have B3 := hid (below_lls BV.out BV.out.size LV.out hg3.out)
     have I3 : Hid (Ivs w.heap.size w3 (.slice aS i cs) ll) := IV.out.keep fun b L hb e => (hg3.out.block b (Array.getElem?_eq_some_iff.1 e).1 (fun q => by
      obtain ⟨_, L', e'⟩ := LV.out.blk q.symm
      rw [e', Option.some.injEq, Obj.cells.injEq] at e
      exact absurd e.2.1 (by decide))).trans e
     have L3 := hid hL3.out
     rw [TAP.out] at L3
     clear hL3 hg3 hb3 LV IV BV EV CV HL TAP
     by_cases hk0 : i = 0
     ·have hk0' : (i : Int) = 0 := by omega
      have hbk : ((i : Int) == 0) = true := by simp [hk0']
      have FIN : Hid (∃ v, Ending.returned (.slice (some ⟨g', 0, none⟩) (t + 1) cap') = .returned v ∧ LLs w.heap.size w.heap.size w3 v ((sts14 n i).take m) ∧ Below w.heap.size w w3) := by
       refine ⟨_, rfl, ?_, B3.out⟩
       have hN : (sts14 n i).length = 1 := by
        rw [hk0]; simp only [sts14]; rw [lx_len]; cases n <;> rfl
       have ht0 : t = 0 := by have := HTN.out; omega
       have e1 : (sts14 n i).take m = (sts14 n i).take (t + 1) := by
        rw [List.take_of_length_le (by omega), List.take_of_length_le (by omega)]
       rw [e1]
       exact L3.out
      clear L3 B3 I3 HG HNX SM HTN
      go_wp2
      go_ret
      exact FIN.out
     ·have hk0' : ¬ (i : Int) = 0 := by omega
      have hbk : ((i : Int) == 0) = false := by simp; exact hk0
      have HCN := hid (next_any (n := n) I3.out SM.out.1 (by omega) hn (fun t ht => by
       have := up_le14 SM.out.2.1 SM.out.2.2 t (by rw [SM.out.1]; exact ht)
       rw [SM.out.1] at this
       exact this))
      go_wp2_with fail
      refine HCN.out.mono ?_
      rintro e w4 (⟨hnx, rfl, hw4⟩ | ⟨l', gn, cn, hnx, hl', hk1, rfl, hI4, hb4⟩)
      ·rw [hw4]
       have FIN : Hid (∃ v, Ending.returned (.slice (some ⟨g', 0, none⟩) (t + 1) cap') = .returned v ∧ LLs w.heap.size w.heap.size w3 v ((sts14 n i).take m) ∧ Below w.heap.size w w3) := by
        refine ⟨_, rfl, ?_, B3.out⟩
        have hN : ¬ t + 1 < (sts14 n i).length := fun q => by
         have := HNX.out
         rw [if_pos q, hnx] at this
         cases this
        have e1 : (sts14 n i).take m = (sts14 n i).take (t + 1) := by
         rw [List.take_of_length_le (by omega), List.take_of_length_le (by omega)]
        rw [e1]
        exact L3.out
       have hnil : ∀ W, (binOp .eql 34 (.slice none 0 0) (.slice none 0 0)).run Tryz.prog W = .ok (.bool true) W := fun W => Lib.run_eql_slice_nil_nil W 0 0 Tryz.underlying34
       clear L3 B3 I3 HG HNX SM HTN HCN hw4 hnx
       go_wp2
       go_ret
       exact FIN.out
      ·have hmore : t + 1 < (sts14 n i).length ∧ l' = (sts14 n i).getD (t + 1) [] := by
        have h1 := HNX.out
        rw [hnx] at h1
        by_cases q : t + 1 < (sts14 n i).length
        ·rw [if_pos q, Option.some.injEq] at h1; exact ⟨q, h1⟩
        ·rw [if_neg q] at h1; cases h1
       have HN1 : Hid (SmH w n i m (m - (t + 1)) (.slice (some ⟨g', 0, none⟩) (t + 1) cap') (.slice (some ⟨gn, 0, none⟩) i cn) w4) := ⟨t + 1, hmore.1, by omega, rfl, L3.out.now hb4, by rw [← hmore.2]; exact owns_le14 hI4 B3.out.size, below_step B3.out hb4⟩
       have HMM : Hid (m - (t + 1) < gk) := by unfold Hid; rw [HG.out]; omega
       have hnil : ∀ W, (binOp .eql 34 (.slice (some ⟨gn, 0, none⟩) i cn) (.slice none 0 0)).run Tryz.prog W = .ok (.bool false) W := fun W => Lib.run_eql_slice_some_nil W _ _ _ Tryz.underlying34
       clear L3 B3 I3 HG HNX SM HTN HCN hI4 hb4 hmore hnx
       go_wp2_with fail
       go_roundg (m - (t + 1))
       case rel => exact HN1.out
       case measure => exact HMM.out
    ·have hlt2' : ¬ (t : Int) < (m : Int) := by omega
     obtain rfl : t = m := by omega
     have FIN : Hid (∃ v, Ending.returned (.slice al t cl) = .returned v ∧ LLs w.heap.size w.heap.size wr v ((sts14 n i).take t) ∧ Below w.heap.size w wr) := ⟨_, rfl, by
      have e1 : (sts14 n i).take t = tk := by
       have h1 := TAP.out
       have h2 : ((sts14 n i).take (t + 1)).take t = (sts14 n i).take t := by rw [List.take_take]; congr 1; omega
       rw [← h2, ← h1, List.take_append_of_le_length (by rw [ETL.out]; exact Nat.le_refl _), List.take_of_length_le (by rw [ETL.out]; exact Nat.le_refl _)]
      rw [e1]
      exact LL.out, BB.out⟩
     clear LL II BB HG HNX SM HTN TAP
     go_wp2
     go_ret
     exact FIN.out
end Go.Proofs.YtplldfnldaehiaaGreat
