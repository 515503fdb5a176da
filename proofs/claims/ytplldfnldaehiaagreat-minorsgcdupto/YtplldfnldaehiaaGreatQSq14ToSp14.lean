/-
 QSq14ToSp14: Sq14, Sp14, joined.
-/
import Derived.Test.YtplldfnldaehiaaGreatQSp13ToTb14
import Derived.Test.YtplldfnldaehiaaGreatQPickB9ToNt14

set_option maxRecDepth 100000
set_option maxHeartbeats 6400000
set_option linter.unusedVariables false
set_option linter.unusedSimpArgs false
namespace Go.Proofs.YtplldfnldaehiaaGreat
def seqN (a : Nat) : Nat → List Nat
 | 0 => []
 | k + 1 => a :: seqN (a + 1) k
theorem zuE : ∀ k a, (seqN a k).length = k
 | 0, _ => rfl
 | k + 1, a => by simp [seqN, zuE k]
theorem zIG : ∀ (k a i : Nat), i < k → (seqN a k).getD i 0 = a + i
 | k + 1, a, 0, _ => rfl
 | k + 1, a, i + 1, h => by
  show (seqN (a + 1) k).getD i 0 = _
  rw [zIG k (a + 1) i (by omega)]; omega
theorem seqN_range (k : Nat) : seqN 0 k = List.range k := by
 refine List.ext_getElem (by simp [zuE]) fun i h1 h2 => ?_
 have := zIG k 0 i (by simpa [zuE] using h1)
 simpa [List.getD_eq_getElem?_getD, List.getElem?_eq_getElem h1] using this
def nxt (n : Nat) : List Nat → Option (List Nat)
 | [] => none
 | a :: l => match nxt n l with
  | some l' => some (a :: l')
  | none => if a + l.length + 1 < n then some (seqN (a + 1) (l.length + 1)) else none
theorem zlB {n a : Nat} {l l' : List Nat} (h : nxt n l = some l') : nxt n (a :: l) = some (a :: l') := by simp [nxt, h]
theorem zJB {n a : Nat} {l : List Nat} (h : nxt n l = none) : nxt n (a :: l) = if a + l.length + 1 < n then some (seqN (a + 1) (l.length + 1)) else none := by simp [nxt, h]
theorem znH {n : Nat} {q q' : List Nat} (h : nxt n q = some q') : ∀ p : List Nat, nxt n (p ++ q) = some (p ++ q')
 | [] => h
 | a :: p => zlB (znH h p)
def lx (n : Nat) : Nat → Nat → List (List Nat)
 | 0, _ => [[]]
 | _ + 1, 0 => []
 | k + 1, d + 1 => (lx n k d).map (fun l => (n - (d + 1)) :: l) ++ lx n (k + 1) d
def cho : Nat → Nat → Nat
 | _, 0 => 1
 | 0, _ + 1 => 0
 | d + 1, k + 1 => cho d k + cho d (k + 1)
theorem zkC (n : Nat) : ∀ d k, (lx n k d).length = cho d k
 | d, 0 => by cases d <;> simp [lx, cho]
 | 0, k + 1 => by simp [lx, cho]
 | d + 1, k + 1 => by simp [lx, cho, zkC n d k, zkC n d (k + 1)]
theorem zBE (n : Nat) : ∀ d k (l : List Nat), d ≤ n → (l ∈ lx n k d ↔ l.length = k ∧ l.Pairwise (· < ·) ∧ ∀ x ∈ l, n - d ≤ x ∧ x < n)
 | d, 0, l, _ => by
  have e : lx n 0 d = [[]] := by cases d <;> rfl
  rw [e, List.mem_singleton]
  constructor
  ·rintro rfl; simp
  ·intro h; exact List.length_eq_zero_iff.1 h.1
 | 0, k + 1, l, _ => by
  show l ∈ [] ↔ _
  constructor
  ·intro h; cases h
  ·rintro ⟨h1, _, h3⟩
   match l, h1, h3 with
   | x :: l, _, h3 => have := h3 x (by simp); omega
 | d + 1, k + 1, l, hd => by
  show l ∈ (lx n k d).map (fun l => (n - (d + 1)) :: l) ++ lx n (k + 1) d ↔ _
  rw [List.mem_append, List.mem_map, zBE n d (k + 1) l (by omega)]
  constructor
  ·rintro (⟨m, hm, rfl⟩ | ⟨h1, h2, h3⟩)
   ·obtain ⟨h1, h2, h3⟩ := (zBE n d k m (by omega)).1 hm
    refine ⟨by simp [h1], List.pairwise_cons.2 ⟨fun x hx => ?_, h2⟩, fun x hx => ?_⟩
    ·have := h3 x hx; omega
    ·rcases List.mem_cons.1 hx with rfl | hx
     ·omega
     ·have := h3 x hx; omega
   ·exact ⟨h1, h2, fun x hx => by have := h3 x hx; omega⟩
  ·rintro ⟨h1, h2, h3⟩
   match l, h1, h2, h3 with
   | x :: m, h1, h2, h3 =>
    have h2' := List.pairwise_cons.1 h2; have hx := h3 x (by simp)
    by_cases q : x = n - (d + 1)
    ·refine .inl ⟨m, (zBE n d k m (by omega)).2 ⟨by simpa using h1, h2'.2, fun y hy => ?_⟩, by rw [q]⟩
     have := h2'.1 y hy; have := h3 y (by simp [hy]); omega
    ·refine .inr ⟨h1, h2, fun y hy => ?_⟩
     rcases List.mem_cons.1 hy with rfl | hy
     ·omega
     ·have := h2'.1 y hy
      have := h3 y (by simp [hy]); omega
def Run (n : Nat) : List (List Nat) → Prop
 | [] => False
 | [x] => nxt n x = none
 | x :: y :: r => nxt n x = some y ∧ Run n (y :: r)
theorem zgH {n a k : Nat} (ha : n ≤ a + k + 1) : ∀ {P : List (List Nat)}, Run n P → (∀ x ∈ P, x.length = k) → Run n (P.map fun l => a :: l)
 | [x], h, hl => by
  show nxt n (a :: x) = none
  rw [zJB h, if_neg (by have := hl x (by simp); omega)]
 | x :: y :: r, h, hl => ⟨zlB h.1, zgH ha (P := y :: r) h.2 fun z hz => hl z (by simp at hz ⊢; exact .inr hz)⟩
theorem zhH {n a k : Nat} (ha : a + k + 1 < n) {q : List Nat} {Q : List (List Nat)} (hq : q = seqN (a + 1) (k + 1)) (hQ : Run n (q :: Q)) : ∀ {P : List (List Nat)}, Run n P → (∀ x ∈ P, x.length = k) → Run n (P.map (fun l => a :: l) ++ q :: Q)
 | [x], h, hl => by
  refine ⟨?_, hQ⟩; have e := hl x (by simp); rw [zJB h, if_pos (by omega), hq, e]
 | x :: y :: r, h, hl => ⟨zlB h.1, zhH ha hq hQ (P := y :: r) h.2 fun z hz => hl z (by simp at hz ⊢; exact .inr hz)⟩
theorem zpG (n : Nat) : ∀ d k, d ≤ n → k ≤ d → ∃ R, lx n k d = seqN (n - d) k :: R ∧ Run n (seqN (n - d) k :: R)
 | d, 0, _, _ => by
  have e : lx n 0 d = [[]] := by cases d <;> rfl
  exact ⟨[], e, rfl⟩
 | 0, k + 1, _, h => by omega
 | d + 1, k + 1, hd, hk => by
  obtain ⟨R, e, hR⟩ := zpG n d k (by omega) (by omega); have hl : ∀ x ∈ lx n k d, x.length = k := fun x hx => ((zBE n d k x (by omega)).1 hx).1
  have es : seqN (n - (d + 1)) (k + 1) = (n - (d + 1)) :: seqN (n - d) k := by
   show _ :: seqN (n - (d + 1) + 1) k = _
   rw [show n - (d + 1) + 1 = n - d by omega]
  rw [e] at hl
  by_cases q : k + 1 ≤ d
  ·obtain ⟨R2, e2, hR2⟩ := zpG n d (k + 1) (by omega) q
   refine ⟨R.map (fun l => (n - (d + 1)) :: l) ++ seqN (n - d) (k + 1) :: R2, ?_, ?_⟩
   ·show (lx n k d).map _ ++ lx n (k + 1) d = _
    rw [e, e2, es]; rfl
   ·rw [es]
    exact zhH (a := n - (d + 1)) (k := k) (by omega) (by rw [show n - (d + 1) + 1 = n - d by omega]) hR2 hR hl
  ·have e2 : lx n (k + 1) d = [] := by
    rcases hlx : lx n (k + 1) d with _ | ⟨x, r⟩
    ·rfl
    ·obtain ⟨h1, h2, h3⟩ := (zBE n d (k + 1) x (by omega)).1 (by rw [hlx]; simp)
     have hlast := zRJ h2 (b := n - d) (fun y hy => (h3 y hy).1) k (by omega); have := (h3 (x.getD k 0) (by
      rw [List.getD_eq_getElem?_getD, List.getElem?_eq_getElem (show k < x.length by omega)]; exact List.getElem_mem _)).2
     omega
   refine ⟨R.map (fun l => (n - (d + 1)) :: l), ?_, ?_⟩
   ·show (lx n k d).map _ ++ lx n (k + 1) d = _
    rw [e, e2, es, List.append_nil]; rfl
   ·rw [es]
    exact zgH (a := n - (d + 1)) (k := k) (by omega) hR hl
theorem zxE {n : Nat} : ∀ {q : List Nat}, (∀ i, i < q.length → n ≤ q.getD i 0 + (q.length - i)) → nxt n q = none
 | [], _ => rfl
 | a :: q, h => by
  rw [zJB (zxE fun i hi => by
   have := h (i + 1) (by simp; omega); simp at this ⊢; omega), if_neg (by have := h 0 (by simp); simp at this; omega)]
theorem nxt_at {n i : Nat} {l : List Nat} (hi : i < l.length) (h1 : l.getD i 0 + (l.length - i) < n) (h2 : ∀ j, i < j → j < l.length → n ≤ l.getD j 0 + (l.length - j)) : nxt n l = some (l.take i ++ seqN (l.getD i 0 + 1) (l.length - i)) := by
 have e : l = l.take i ++ (l.getD i 0 :: l.drop (i + 1)) := by
  conv => lhs; rw [← List.take_append_drop i l]
  congr 1
  rw [List.drop_eq_getElem_cons hi]; simp [hi]
 have hn : nxt n (l.getD i 0 :: l.drop (i + 1)) = some (seqN (l.getD i 0 + 1) (l.length - i)) := by
  rw [zJB (zxE fun j hj => by
   rw [List.length_drop] at hj; have := h2 (i + 1 + j) (by omega) (by omega); rw [List.length_drop]; have e2 : (l.drop (i + 1)).getD j 0 = l.getD (i + 1 + j) 0 := by simp [List.getD_eq_getElem?_getD, List.getElem?_drop]
   rw [e2]; omega), List.length_drop, if_pos (by omega), show l.length - (i + 1) + 1 = l.length - i by omega]
 have := znH hn (l.take i); rw [← e] at this; exact this
open Go.RowKit
abbrev nf (l : List Nat) : Nat → Int := fun t => (l.getD t 0 : Nat)
def StpH (w : World) (l : List Nat) (n k gk : Nat) (s5 s6 : Value) (wx : World) : Prop :=
 ∃ u : Nat, s6 = .int .i64 ((u : Int) - 1) ∧ s5 = .int .i64 ((n : Int) - 1 - ((k : Int) - (u : Int))) ∧ u ≤ k ∧ gk = u ∧ (∀ j, u ≤ j → j < k → n ≤ l.getD j 0 + (k - j)) ∧ wx = w
def sqF (l : List Nat) (i v : Nat) : Nat → Int := fun t => if t < i then (l.getD t 0 : Nat) else if t < v then ((l.getD i 0 + 1 + (t - i) : Nat) : Int) else (l.getD t 0 : Nat)
def StwH (w : World) (g : Nat) (l : List Nat) (i k gk : Nat) (s6 s7 : Value) (wx : World) : Prop :=
 ∃ v : Nat, s6 = .int .i64 (v : Int) ∧ s7 = .int .i64 ((l.getD i 0 + 1 + (v - i) : Nat) : Int) ∧ i ≤ v ∧ v ≤ k ∧ gk = k - v ∧ Cel wx g 3 (wf k (sqF l i v)) ∧ zNA (· = g) w wx
theorem sqF_zero (l : List Nat) (i : Nat) : ∀ t, sqF l i i t = nf l t := fun t => by
 unfold sqF nf
 by_cases q : t < i
 ·rw [if_pos q]
 ·rw [if_neg q, if_neg q]
theorem sqF_put {l : List Nat} {i v : Nat} (h : i ≤ v) (t : Nat) : upF (sqF l i v) v ((l.getD i 0 + 1 + (v - i) : Nat) : Int) t = sqF l i (v + 1) t := by
 unfold upF sqF
 by_cases q : t = v
 ·subst q; rw [if_pos rfl, if_neg (by omega), if_pos (by omega)]
 ·rw [if_neg q]
  by_cases a : t < i
  ·rw [if_pos a, if_pos a]
  ·rw [if_neg a, if_neg a]
   by_cases b : t < v
   ·rw [if_pos b, if_pos (by omega)]
   ·rw [if_neg b, if_neg (by omega)]
theorem sqF_end {l : List Nat} {i k t : Nat} (hi : i ≤ k) (hl : l.length = k) (ht : t < k) : sqF l i k t = nf (l.take i ++ seqN (l.getD i 0 + 1) (k - i)) t := by
 unfold sqF
 show _ = (((l.take i ++ seqN (l.getD i 0 + 1) (k - i)).getD t 0 : Nat) : Int)
 have el : (l.take i).length = i := by simp; omega
 obtain ⟨S, hS⟩ : ∃ S, seqN (l.getD i 0 + 1) (k - i) = S := ⟨_, rfl⟩
 rw [hS]
 by_cases q : t < i
 ·rw [if_pos q]
  have : (l.take i ++ S).getD t 0 = l.getD t 0 := by
   simp only [List.getD_eq_getElem?_getD]; rw [List.getElem?_append_left (by omega), List.getElem?_take, if_pos q]
  rw [this]
 ·rw [if_neg q, if_pos ht]
  have : (l.take i ++ S).getD t 0 = S.getD (t - i) 0 := by
   simp only [List.getD_eq_getElem?_getD]; rw [List.getElem?_append_right (by omega), el]
  rw [this, ← hS, zIG (k - i) (l.getD i 0 + 1) (t - i) (by omega)]
def zTG (w : World) (g n k : Nat) (l : List Nat) (e : Ending) (w' : World) : Prop :=
 (nxt n l = none ∧ e = .returned (.bool false) ∧ w' = w) ∨ ∃ l', nxt n l = some l' ∧ e = .returned (.bool true) ∧ Cel w' g 3 (wf k (nf l')) ∧ zNA (· = g) w w'
theorem step_any {w : World} {g k n : Nat} {l : List Nat} (hc : Cel w g 3 (wf k (nf l))) (hl : l.length = k) (hk : k ≤ 64) (hn : n ≤ 64) (hlt : ∀ t, t < k → l.getD t 0 < n) :
  Calls Tryz.prog 76 #[.slice (some ⟨g, 0, none⟩) k k, .int .i64 (n : Int)] w (zTG w g n k l) := by
 have CC := hid hc; have HL := hid hl; have HLT := hid hlt; have H0 : Hid (StpH w l n k k (.int .i64 ((k : Int) - 1)) (.int .i64 ((k : Int) - 1)) w → True) := fun _ => trivial
 have H1 : Hid (StpH w l n k k (.int .i64 ((n : Int) - 1)) (.int .i64 ((k : Int) - 1)) w) := ⟨k, rfl, by congr 1; omega, Nat.le_refl _, rfl, fun j h1 h2 => by omega, rfl⟩
 have hw1 : IntKind.i64.wrap ((n : Int) - 1) = (n : Int) - 1 := by rw [zKA] <;> omega
 have hw2 : IntKind.i64.wrap ((k : Int) - 1) = (k : Int) - 1 := by rw [zKA] <;> omega
 clear hc hl hlt H0; go_enter Tryz.func76, Tryz.ntmps76; go_wp2_with fail; clear hw1 hw2
 go_loopg [5, 6] k (fun gk s5 s6 wx => StpH w l n k gk s5 s6 wx)
 case atStart => exact H1.out
 case round =>
  clear H1; obtain ⟨u, rfl, rfl, huk, hg, hh, hwx⟩ := hrel; rw [hwx]; clear hwx wr; have HG := hid hg; have HH := hid hh; clear hg hh
  by_cases hu : u = 0
  ·have hu' : ¬ (0 : Int) ≤ (u : Int) - 1 := by omega
   have hu2 : (decide ((0 : Int) ≤ (u : Int) - 1)) = false := decide_eq_false hu'; have FIN : Hid (zTG w g n k l (.returned (.bool false)) w) := .inl ⟨zxE fun i hi => by
    have := HH.out i (by omega) (by rw [← HL.out]; exact hi); rw [HL.out]; exact this, rfl, rfl⟩
   clear HG HH hu CC HL HLT; go_wp2; go_ret; exact FIN.out
  ·obtain ⟨i, rfl⟩ : ∃ i, u = i + 1 := ⟨u - 1, by omega⟩
   have ei : ((i + 1 : Nat) : Int) - 1 = (i : Int) := by omega
   have el : (n : Int) - 1 - ((k : Int) - ((i + 1 : Nat) : Int)) = (n : Int) + (i : Int) - (k : Int) := by omega
   rw [ei, el]; have hik : i < k := by omega
   have hik' : (i : Int) < (k : Int) := by omega
   have c0 := CC.out.nf hik; obtain ⟨x, hx⟩ : ∃ x, l.getD i 0 = x := ⟨_, rfl⟩
   have c0' : w.cell? ⟨g, i, none⟩ = some (.int .i64 (x : Int)) := by rw [c0]; show some (Value.int .i64 ((l.getD i 0 : Nat) : Int)) = _; rw [hx]
   have hxn : x < n := by rw [← hx]; exact HLT.out i hik
   have HX := hid hx; clear c0 hx hu ei el
   by_cases hless : (x : Int) < (n : Int) + (i : Int) - (k : Int)
   ·have hwx := zSA (i := x) (by omega)
    have HNX : Hid (nxt n l = some (l.take i ++ seqN (x + 1) (k - i))) := by
     unfold Hid; have := nxt_at (n := n) (i := i) (l := l) (by rw [HL.out]; exact hik) (by rw [HL.out, HX.out]; omega) (fun j h1 h2 => by
      rw [HL.out] at h2 ⊢; exact HH.out j (by omega) h2)
     rw [HL.out, HX.out] at this; exact this
    have H2 : Hid (StwH w g l i k (k - i) (.int .i64 (i : Int)) (.int .i64 ((x + 1 : Nat) : Int)) w) := ⟨i, rfl, by rw [HX.out, Nat.sub_self, Nat.add_zero], Nat.le_refl _, by omega, rfl, by rw [zYA fun t _ => sqF_zero l i t]; exact CC.out, zNA.refl _ _⟩
    clear HG HH CC; go_wp2_with fail
    go_loopg [6, 7] (k - i) (fun gk s6 s7 wx => StwH w g l i k gk s6 s7 wx)
    case atStart => exact H2.out
    case round =>
     clear H2 c0'; obtain ⟨v, rfl, rfl, hiv, hvk, hg, hcv, htv⟩ := hrel; rw [HX.out]; have CV := hid hcv; have TV := hid htv; have HG := hid hg; clear hg hcv htv
     by_cases hlv : v < k
     ·have hlv' : (v : Int) < (k : Int) := by omega
      have hwv := zSA (i := v) (by omega); have e0 := CV.out.nf hlv; have e1 := CV.out.fz v; have HN1 : Hid (StwH w g l i k (k - (v + 1)) (.int .i64 ((v + 1 : Nat) : Int)) (.int .i64 ((x + 1 + (v - i) + 1 : Nat) : Int)) (wr.setCell ⟨g, v, none⟩ (.int .i64 ((x + 1 + (v - i) : Nat) : Int)))) := ⟨v + 1, rfl, by rw [HX.out]; congr 2; omega, by omega, by omega, rfl, by
       have := CV.out.nfset hlv ((l.getD i 0 + 1 + (v - i) : Nat) : Int); rw [zYA fun t _ => sqF_put hiv t, HX.out] at this; exact this, TV.out.setCell (.inr rfl) _ _⟩
      have HMM : Hid (k - (v + 1) < gk) := by unfold Hid; rw [HG.out]; omega
      obtain ⟨y, hy⟩ : ∃ y, x + 1 + (v - i) = y := ⟨_, rfl⟩
      have hwy := zSA (i := y) (by omega); rw [hy] at HN1 ⊢; clear CV TV HG hy; go_wp2_with fail; go_roundg (k - (v + 1))
      case rel => exact HN1.out
      case measure => exact HMM.out
     ·have hlv' : ¬ (v : Int) < (k : Int) := by omega
      obtain rfl : v = k := by omega
      have FIN : Hid (zTG w g n v l (.returned (.bool true)) wr) := .inr ⟨_, HNX.out, rfl, by
       have := CV.out; rw [zYA fun t ht => sqF_end (by omega) HL.out ht, HX.out] at this; exact this, TV.out⟩
      obtain ⟨y, hy⟩ : ∃ y, x + 1 + (v - i) = y := ⟨_, rfl⟩
      rw [hy]; clear CV TV HG HNX hy; go_wp2; go_ret; exact FIN.out
   ·have hwi : IntKind.i64.wrap ((i : Int) - 1) = (i : Int) - 1 := by rw [zKA] <;> omega
    have hwl : IntKind.i64.wrap ((n : Int) + (i : Int) - (k : Int) - 1) = (n : Int) + (i : Int) - (k : Int) - 1 := by rw [zKA] <;> omega
    have HN1 : Hid (StpH w l n k i (.int .i64 ((n : Int) + (i : Int) - (k : Int) - 1)) (.int .i64 ((i : Int) - 1)) w) := ⟨i, rfl, by congr 1; omega, by omega, rfl, fun j h1 h2 => by
     by_cases q : j = i
     ·subst q; rw [HX.out]; omega
     ·exact HH.out j (by omega) h2, rfl⟩
    have HMM : Hid (i < gk) := by unfold Hid; rw [HG.out]; omega
    clear HG HH CC; go_wp2_with fail; go_roundg i
    case rel => exact HN1.out
    case measure => exact HMM.out
end Go.Proofs.YtplldfnldaehiaaGreat
