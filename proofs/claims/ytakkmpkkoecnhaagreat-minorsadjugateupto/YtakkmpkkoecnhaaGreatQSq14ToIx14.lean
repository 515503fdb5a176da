/-
 QSq14ToIx14: Sq14, Sp14, Do14, Gi10, Up13, Ix14, joined.
-/
import Derived.Test.YtakkmpkkoecnhaaGreatQUq13ToTo14
import Derived.Test.YtakkmpkkoecnhaaGreatQPickB9ToNt14
import Derived.Deep.AppendLies
import Derived.Test.YtakkmpkkoecnhaaGreatQSr13ToAd14
import Derived.Maps.AppendAt
import Derived.Lib.BufferMore

set_option maxRecDepth 100000
set_option maxHeartbeats 6400000
set_option linter.unusedVariables false
set_option linter.unusedSimpArgs false
namespace Go.Proofs.YtakkmpkkoecnhaaGreat
def seqN (a : Nat) : Nat → List Nat
 | 0 => []
 | k + 1 => a :: seqN (a + 1) k
theorem zpE : ∀ k a, (seqN a k).length = k
 | 0, _ => rfl
 | k + 1, a => by simp [seqN, zpE k]
theorem zqE : ∀ (k a i : Nat), i < k → (seqN a k).getD i 0 = a + i
 | k + 1, a, 0, _ => rfl
 | k + 1, a, i + 1, h => by
  show (seqN (a + 1) k).getD i 0 = _
  rw [zqE k (a + 1) i (by omega)]; omega
theorem seqN_range (k : Nat) : seqN 0 k = List.range k := by
 refine List.ext_getElem (by simp [zpE]) fun i h1 h2 => ?_
 have := zqE k 0 i (by simpa [zpE] using h1)
 simpa [List.getD_eq_getElem?_getD, List.getElem?_eq_getElem h1] using this
def nxt (n : Nat) : List Nat → Option (List Nat)
 | [] => none
 | a :: l => match nxt n l with
  | some l' => some (a :: l')
  | none => if a + l.length + 1 < n then some (seqN (a + 1) (l.length + 1)) else none
theorem zsB {n a : Nat} {l l' : List Nat} (h : nxt n l = some l') : nxt n (a :: l) = some (a :: l') := by simp [nxt, h]
theorem zPB {n a : Nat} {l : List Nat} (h : nxt n l = none) : nxt n (a :: l) = if a + l.length + 1 < n then some (seqN (a + 1) (l.length + 1)) else none := by simp [nxt, h]
theorem zvH {n : Nat} {q q' : List Nat} (h : nxt n q = some q') : ∀ p : List Nat, nxt n (p ++ q) = some (p ++ q')
 | [] => h
 | a :: p => zsB (zvH h p)
def lx (n : Nat) : Nat → Nat → List (List Nat)
 | 0, _ => [[]]
 | _ + 1, 0 => []
 | k + 1, d + 1 => (lx n k d).map (fun l => (n - (d + 1)) :: l) ++ lx n (k + 1) d
def cho : Nat → Nat → Nat
 | _, 0 => 1
 | 0, _ + 1 => 0
 | d + 1, k + 1 => cho d k + cho d (k + 1)
theorem zDE (n : Nat) : ∀ d k, (lx n k d).length = cho d k
 | d, 0 => by cases d <;> simp [lx, cho]
 | 0, k + 1 => by simp [lx, cho]
 | d + 1, k + 1 => by simp [lx, cho, zDE n d k, zDE n d (k + 1)]
theorem zbE (n : Nat) : ∀ d k (l : List Nat), d ≤ n → (l ∈ lx n k d ↔ l.length = k ∧ l.Pairwise (· < ·) ∧ ∀ x ∈ l, n - d ≤ x ∧ x < n)
 | d, 0, l, _ => by
  have e : lx n 0 d = [[]] := by cases d <;> rfl
  rw [e, List.mem_singleton]
  constructor
  ·rintro rfl; simp
  ·intro h; exact List.length_eq_zero_iff.1 h.1
 | 0, k + 1, l, _ => by
  show l ∈ [] ↔ _
  constructor
  ·intro h; cases h
  ·rintro ⟨h1, _, h3⟩
   match l, h1, h3 with
   | x :: l, _, h3 => have := h3 x (by simp); omega
 | d + 1, k + 1, l, hd => by
  show l ∈ (lx n k d).map (fun l => (n - (d + 1)) :: l) ++ lx n (k + 1) d ↔ _
  rw [List.mem_append, List.mem_map, zbE n d (k + 1) l (by omega)]
  constructor
  ·rintro (⟨m, hm, rfl⟩ | ⟨h1, h2, h3⟩)
   ·obtain ⟨h1, h2, h3⟩ := (zbE n d k m (by omega)).1 hm
    refine ⟨by simp [h1], List.pairwise_cons.2 ⟨fun x hx => ?_, h2⟩, fun x hx => ?_⟩
    ·have := h3 x hx; omega
    ·rcases List.mem_cons.1 hx with rfl | hx
     ·omega
     ·have := h3 x hx; omega
   ·exact ⟨h1, h2, fun x hx => by have := h3 x hx; omega⟩
  ·rintro ⟨h1, h2, h3⟩
   match l, h1, h2, h3 with
   | x :: m, h1, h2, h3 =>
    have h2' := List.pairwise_cons.1 h2; have hx := h3 x (by simp)
    by_cases q : x = n - (d + 1)
    ·refine .inl ⟨m, (zbE n d k m (by omega)).2 ⟨by simpa using h1, h2'.2, fun y hy => ?_⟩, by rw [q]⟩
     have := h2'.1 y hy; have := h3 y (by simp [hy]); omega
    ·refine .inr ⟨h1, h2, fun y hy => ?_⟩
     rcases List.mem_cons.1 hy with rfl | hy
     ·omega
     ·have := h2'.1 y hy
      have := h3 y (by simp [hy]); omega
def Run (n : Nat) : List (List Nat) → Prop
 | [] => False
 | [x] => nxt n x = none
 | x :: y :: r => nxt n x = some y ∧ Run n (y :: r)
theorem zoH {n a k : Nat} (ha : n ≤ a + k + 1) : ∀ {P : List (List Nat)}, Run n P → (∀ x ∈ P, x.length = k) → Run n (P.map fun l => a :: l)
 | [x], h, hl => by
  show nxt n (a :: x) = none
  rw [zPB h, if_neg (by have := hl x (by simp); omega)]
 | x :: y :: r, h, hl => ⟨zsB h.1, zoH ha (P := y :: r) h.2 fun z hz => hl z (by simp at hz ⊢; exact .inr hz)⟩
theorem zpH {n a k : Nat} (ha : a + k + 1 < n) {q : List Nat} {Q : List (List Nat)} (hq : q = seqN (a + 1) (k + 1)) (hQ : Run n (q :: Q)) : ∀ {P : List (List Nat)}, Run n P → (∀ x ∈ P, x.length = k) → Run n (P.map (fun l => a :: l) ++ q :: Q)
 | [x], h, hl => by
  refine ⟨?_, hQ⟩; have e := hl x (by simp); rw [zPB h, if_pos (by omega), hq, e]
 | x :: y :: r, h, hl => ⟨zsB h.1, zpH ha hq hQ (P := y :: r) h.2 fun z hz => hl z (by simp at hz ⊢; exact .inr hz)⟩
theorem zuG (n : Nat) : ∀ d k, d ≤ n → k ≤ d → ∃ R, lx n k d = seqN (n - d) k :: R ∧ Run n (seqN (n - d) k :: R)
 | d, 0, _, _ => by
  have e : lx n 0 d = [[]] := by cases d <;> rfl
  exact ⟨[], e, rfl⟩
 | 0, k + 1, _, h => by omega
 | d + 1, k + 1, hd, hk => by
  obtain ⟨R, e, hR⟩ := zuG n d k (by omega) (by omega); have hl : ∀ x ∈ lx n k d, x.length = k := fun x hx => ((zbE n d k x (by omega)).1 hx).1
  have es : seqN (n - (d + 1)) (k + 1) = (n - (d + 1)) :: seqN (n - d) k := by
   show _ :: seqN (n - (d + 1) + 1) k = _
   rw [show n - (d + 1) + 1 = n - d by omega]
  rw [e] at hl
  by_cases q : k + 1 ≤ d
  ·obtain ⟨R2, e2, hR2⟩ := zuG n d (k + 1) (by omega) q
   refine ⟨R.map (fun l => (n - (d + 1)) :: l) ++ seqN (n - d) (k + 1) :: R2, ?_, ?_⟩
   ·show (lx n k d).map _ ++ lx n (k + 1) d = _
    rw [e, e2, es]; rfl
   ·rw [es]
    exact zpH (a := n - (d + 1)) (k := k) (by omega) (by rw [show n - (d + 1) + 1 = n - d by omega]) hR2 hR hl
  ·have e2 : lx n (k + 1) d = [] := by
    rcases hlx : lx n (k + 1) d with _ | ⟨x, r⟩
    ·rfl
    ·obtain ⟨h1, h2, h3⟩ := (zbE n d (k + 1) x (by omega)).1 (by rw [hlx]; simp)
     have hlast := zbJ h2 (b := n - d) (fun y hy => (h3 y hy).1) k (by omega); have := (h3 (x.getD k 0) (by
      rw [List.getD_eq_getElem?_getD, List.getElem?_eq_getElem (show k < x.length by omega)]; exact List.getElem_mem _)).2
     omega
   refine ⟨R.map (fun l => (n - (d + 1)) :: l), ?_, ?_⟩
   ·show (lx n k d).map _ ++ lx n (k + 1) d = _
    rw [e, e2, es, List.append_nil]; rfl
   ·rw [es]
    exact zoH (a := n - (d + 1)) (k := k) (by omega) hR hl
theorem zsE {n : Nat} : ∀ {q : List Nat}, (∀ i, i < q.length → n ≤ q.getD i 0 + (q.length - i)) → nxt n q = none
 | [], _ => rfl
 | a :: q, h => by
  rw [zPB (zsE fun i hi => by
   have := h (i + 1) (by simp; omega); simp at this ⊢; omega), if_neg (by have := h 0 (by simp); simp at this; omega)]
theorem nxt_at {n i : Nat} {l : List Nat} (hi : i < l.length) (h1 : l.getD i 0 + (l.length - i) < n) (h2 : ∀ j, i < j → j < l.length → n ≤ l.getD j 0 + (l.length - j)) : nxt n l = some (l.take i ++ seqN (l.getD i 0 + 1) (l.length - i)) := by
 have e : l = l.take i ++ (l.getD i 0 :: l.drop (i + 1)) := by
  conv => lhs; rw [← List.take_append_drop i l]
  congr 1
  rw [List.drop_eq_getElem_cons hi]; simp [hi]
 have hn : nxt n (l.getD i 0 :: l.drop (i + 1)) = some (seqN (l.getD i 0 + 1) (l.length - i)) := by
  rw [zPB (zsE fun j hj => by
   rw [List.length_drop] at hj; have := h2 (i + 1 + j) (by omega) (by omega); rw [List.length_drop]; have e2 : (l.drop (i + 1)).getD j 0 = l.getD (i + 1 + j) 0 := by simp [List.getD_eq_getElem?_getD, List.getElem?_drop]
   rw [e2]; omega), List.length_drop, if_pos (by omega), show l.length - (i + 1) + 1 = l.length - i by omega]
 have := zvH hn (l.take i); rw [← e] at this; exact this
open Go.RowKit
abbrev nf (l : List Nat) : Nat → Int := fun t => (l.getD t 0 : Nat)
def StpH (w : World) (l : List Nat) (n k gk : Nat) (s5 s6 : Value) (wx : World) : Prop :=
 ∃ u : Nat, s6 = .int .i64 ((u : Int) - 1) ∧ s5 = .int .i64 ((n : Int) - 1 - ((k : Int) - (u : Int))) ∧ u ≤ k ∧ gk = u ∧ (∀ j, u ≤ j → j < k → n ≤ l.getD j 0 + (k - j)) ∧ wx = w
def sqF (l : List Nat) (i v : Nat) : Nat → Int := fun t => if t < i then (l.getD t 0 : Nat) else if t < v then ((l.getD i 0 + 1 + (t - i) : Nat) : Int) else (l.getD t 0 : Nat)
def StwH (w : World) (g : Nat) (l : List Nat) (i k gk : Nat) (s6 s7 : Value) (wx : World) : Prop :=
 ∃ v : Nat, s6 = .int .i64 (v : Int) ∧ s7 = .int .i64 ((l.getD i 0 + 1 + (v - i) : Nat) : Int) ∧ i ≤ v ∧ v ≤ k ∧ gk = k - v ∧ Cel wx g 3 (wf k (sqF l i v)) ∧ zPA (· = g) w wx
theorem sqF_zero (l : List Nat) (i : Nat) : ∀ t, sqF l i i t = nf l t := fun t => by
 unfold sqF nf
 by_cases q : t < i
 ·rw [if_pos q]
 ·rw [if_neg q, if_neg q]
theorem sqF_put {l : List Nat} {i v : Nat} (h : i ≤ v) (t : Nat) : upF (sqF l i v) v ((l.getD i 0 + 1 + (v - i) : Nat) : Int) t = sqF l i (v + 1) t := by
 unfold upF sqF
 by_cases q : t = v
 ·subst q; rw [if_pos rfl, if_neg (by omega), if_pos (by omega)]
 ·rw [if_neg q]
  by_cases a : t < i
  ·rw [if_pos a, if_pos a]
  ·rw [if_neg a, if_neg a]
   by_cases b : t < v
   ·rw [if_pos b, if_pos (by omega)]
   ·rw [if_neg b, if_neg (by omega)]
theorem sqF_end {l : List Nat} {i k t : Nat} (hi : i ≤ k) (hl : l.length = k) (ht : t < k) : sqF l i k t = nf (l.take i ++ seqN (l.getD i 0 + 1) (k - i)) t := by
 unfold sqF
 show _ = (((l.take i ++ seqN (l.getD i 0 + 1) (k - i)).getD t 0 : Nat) : Int)
 have el : (l.take i).length = i := by simp; omega
 obtain ⟨S, hS⟩ : ∃ S, seqN (l.getD i 0 + 1) (k - i) = S := ⟨_, rfl⟩
 rw [hS]
 by_cases q : t < i
 ·rw [if_pos q]
  have : (l.take i ++ S).getD t 0 = l.getD t 0 := by
   simp only [List.getD_eq_getElem?_getD]; rw [List.getElem?_append_left (by omega), List.getElem?_take, if_pos q]
  rw [this]
 ·rw [if_neg q, if_pos ht]
  have : (l.take i ++ S).getD t 0 = S.getD (t - i) 0 := by
   simp only [List.getD_eq_getElem?_getD]; rw [List.getElem?_append_right (by omega), el]
  rw [this, ← hS, zqE (k - i) (l.getD i 0 + 1) (t - i) (by omega)]
def zWG (w : World) (g n k : Nat) (l : List Nat) (e : Ending) (w' : World) : Prop :=
 (nxt n l = none ∧ e = .returned (.bool false) ∧ w' = w) ∨ ∃ l', nxt n l = some l' ∧ e = .returned (.bool true) ∧ Cel w' g 3 (wf k (nf l')) ∧ zPA (· = g) w w'
theorem step_any {w : World} {g k n : Nat} {l : List Nat} (hc : Cel w g 3 (wf k (nf l))) (hl : l.length = k) (hk : k ≤ 64) (hn : n ≤ 64) (hlt : ∀ t, t < k → l.getD t 0 < n) :
  Calls Tryz.prog 119 #[.slice (some ⟨g, 0, none⟩) k k, .int .i64 (n : Int)] w (zWG w g n k l) := by
 have CC := hid hc; have HL := hid hl; have HLT := hid hlt; have H0 : Hid (StpH w l n k k (.int .i64 ((k : Int) - 1)) (.int .i64 ((k : Int) - 1)) w → True) := fun _ => trivial
 have H1 : Hid (StpH w l n k k (.int .i64 ((n : Int) - 1)) (.int .i64 ((k : Int) - 1)) w) := ⟨k, rfl, by congr 1; omega, Nat.le_refl _, rfl, fun j h1 h2 => by omega, rfl⟩
 have hw1 : IntKind.i64.wrap ((n : Int) - 1) = (n : Int) - 1 := by rw [zVA] <;> omega
 have hw2 : IntKind.i64.wrap ((k : Int) - 1) = (k : Int) - 1 := by rw [zVA] <;> omega
 clear hc hl hlt H0; go_enter Tryz.func119, Tryz.ntmps119; go_wp2_with fail; clear hw1 hw2
 go_loopg [5, 6] k (fun gk s5 s6 wx => StpH w l n k gk s5 s6 wx)
 case atStart => exact H1.out
 case round =>
  clear H1; obtain ⟨u, rfl, rfl, huk, hg, hh, hwx⟩ := hrel; rw [hwx]; clear hwx wr; have HG := hid hg; have HH := hid hh; clear hg hh
  by_cases hu : u = 0
  ·have hu' : ¬ (0 : Int) ≤ (u : Int) - 1 := by omega
   have hu2 : (decide ((0 : Int) ≤ (u : Int) - 1)) = false := decide_eq_false hu'; have FIN : Hid (zWG w g n k l (.returned (.bool false)) w) := .inl ⟨zsE fun i hi => by
    have := HH.out i (by omega) (by rw [← HL.out]; exact hi); rw [HL.out]; exact this, rfl, rfl⟩
   clear HG HH hu CC HL HLT; go_wp2; go_ret; exact FIN.out
  ·obtain ⟨i, rfl⟩ : ∃ i, u = i + 1 := ⟨u - 1, by omega⟩
   have ei : ((i + 1 : Nat) : Int) - 1 = (i : Int) := by omega
   have el : (n : Int) - 1 - ((k : Int) - ((i + 1 : Nat) : Int)) = (n : Int) + (i : Int) - (k : Int) := by omega
   rw [ei, el]; have hik : i < k := by omega
   have hik' : (i : Int) < (k : Int) := by omega
   have c0 := CC.out.nf hik; obtain ⟨x, hx⟩ : ∃ x, l.getD i 0 = x := ⟨_, rfl⟩
   have c0' : w.cell? ⟨g, i, none⟩ = some (.int .i64 (x : Int)) := by rw [c0]; show some (Value.int .i64 ((l.getD i 0 : Nat) : Int)) = _; rw [hx]
   have hxn : x < n := by rw [← hx]; exact HLT.out i hik
   have HX := hid hx; clear c0 hx hu ei el
   by_cases hless : (x : Int) < (n : Int) + (i : Int) - (k : Int)
   ·have hwx := zQA (i := x) (by omega)
    have HNX : Hid (nxt n l = some (l.take i ++ seqN (x + 1) (k - i))) := by
     unfold Hid; have := nxt_at (n := n) (i := i) (l := l) (by rw [HL.out]; exact hik) (by rw [HL.out, HX.out]; omega) (fun j h1 h2 => by
      rw [HL.out] at h2 ⊢; exact HH.out j (by omega) h2)
     rw [HL.out, HX.out] at this; exact this
    have H2 : Hid (StwH w g l i k (k - i) (.int .i64 (i : Int)) (.int .i64 ((x + 1 : Nat) : Int)) w) := ⟨i, rfl, by rw [HX.out, Nat.sub_self, Nat.add_zero], Nat.le_refl _, by omega, rfl, by rw [zgA fun t _ => sqF_zero l i t]; exact CC.out, zPA.refl _ _⟩
    clear HG HH CC; go_wp2_with fail
    go_loopg [6, 7] (k - i) (fun gk s6 s7 wx => StwH w g l i k gk s6 s7 wx)
    case atStart => exact H2.out
    case round =>
     clear H2 c0'; obtain ⟨v, rfl, rfl, hiv, hvk, hg, hcv, htv⟩ := hrel; rw [HX.out]; have CV := hid hcv; have TV := hid htv; have HG := hid hg; clear hg hcv htv
     by_cases hlv : v < k
     ·have hlv' : (v : Int) < (k : Int) := by omega
      have hwv := zQA (i := v) (by omega); have e0 := CV.out.nf hlv; have e1 := CV.out.fz v; have HN1 : Hid (StwH w g l i k (k - (v + 1)) (.int .i64 ((v + 1 : Nat) : Int)) (.int .i64 ((x + 1 + (v - i) + 1 : Nat) : Int)) (wr.setCell ⟨g, v, none⟩ (.int .i64 ((x + 1 + (v - i) : Nat) : Int)))) := ⟨v + 1, rfl, by rw [HX.out]; congr 2; omega, by omega, by omega, rfl, by
       have := CV.out.nfset hlv ((l.getD i 0 + 1 + (v - i) : Nat) : Int); rw [zgA fun t _ => sqF_put hiv t, HX.out] at this; exact this, TV.out.setCell (.inr rfl) _ _⟩
      have HMM : Hid (k - (v + 1) < gk) := by unfold Hid; rw [HG.out]; omega
      obtain ⟨y, hy⟩ : ∃ y, x + 1 + (v - i) = y := ⟨_, rfl⟩
      have hwy := zQA (i := y) (by omega); rw [hy] at HN1 ⊢; clear CV TV HG hy; go_wp2_with fail; go_roundg (k - (v + 1))
      case rel => exact HN1.out
      case measure => exact HMM.out
     ·have hlv' : ¬ (v : Int) < (k : Int) := by omega
      obtain rfl : v = k := by omega
      have FIN : Hid (zWG w g n v l (.returned (.bool true)) wr) := .inr ⟨_, HNX.out, rfl, by
       have := CV.out; rw [zgA fun t ht => sqF_end (by omega) HL.out ht, HX.out] at this; exact this, TV.out⟩
      obtain ⟨y, hy⟩ : ∃ y, x + 1 + (v - i) = y := ⟨_, rfl⟩
      rw [hy]; clear CV TV HG HNX hy; go_wp2; go_ret; exact FIN.out
   ·have hwi : IntKind.i64.wrap ((i : Int) - 1) = (i : Int) - 1 := by rw [zVA] <;> omega
    have hwl : IntKind.i64.wrap ((n : Int) + (i : Int) - (k : Int) - 1) = (n : Int) + (i : Int) - (k : Int) - 1 := by rw [zVA] <;> omega
    have HN1 : Hid (StpH w l n k i (.int .i64 ((n : Int) + (i : Int) - (k : Int) - 1)) (.int .i64 ((i : Int) - 1)) w) := ⟨i, rfl, by congr 1; omega, by omega, rfl, fun j h1 h2 => by
     by_cases q : j = i
     ·subst q; rw [HX.out]; omega
     ·exact HH.out j (by omega) h2, rfl⟩
    have HMM : Hid (i < gk) := by unfold Hid; rw [HG.out]; omega
    clear HG HH CC; go_wp2_with fail; go_roundg i
    case rel => exact HN1.out
    case measure => exact HMM.out
end Go.Proofs.YtakkmpkkoecnhaaGreat
namespace Go.Proofs.YtakkmpkkoecnhaaGreat
def ixo (l : List Nat) (x : Nat) : Nat := l.findIdx (· == x)
theorem zHC {l : List Nat} {x : Nat} (h : x ∈ l) : ixo l x < l.length := List.findIdx_lt_length_of_exists ⟨x, h, by simp⟩
theorem zmB {l : List Nat} {x : Nat} (h : x ∈ l) : l.getD (ixo l x) 0 = x := by
 have h1 := zHC h; have h2 : (l[ixo l x] == x) = true := List.findIdx_getElem (p := (· == x)) (w := h1); simp [h1] at h2 ⊢; exact h2
theorem ixo_is {l : List Nat} {x i : Nat} (hi : i < l.length) (he : l.getD i 0 = x) (hj : ∀ j, j < i → l.getD j 0 ≠ x) : ixo l x = i := by
 refine (List.findIdx_eq (p := (· == x)) hi).2 ⟨by simpa [hi] using he, fun j hji => ?_⟩; have hjl : j < l.length := by omega
 have := hj j hji
 simpa [hjl] using this
theorem zXA {l : List Nat} {i : Nat} (h : i < l.length) : l.getD i 0 ∈ l := by
 rw [List.getD_eq_getElem?_getD, List.getElem?_eq_getElem h]; exact List.getElem_mem _
theorem zDH {l : List Nat} {x : Nat} (h : x ∈ l) : ∃ i, i < l.length ∧ l.getD i 0 = x := ⟨ixo l x, zHC h, zmB h⟩
section
variable (W bs os : List Nat) (m : Nat)
def opnL (p : Nat) : List Nat := (List.range p).filter fun t => decide (W.getD t 0 ∉ bs)
def sltL (p : Nat) : List Nat := (opnL W bs p).map fun t => ixo os (W.getD t 0)
def freL (i : Nat) : List Nat := (List.range i).filter fun t => decide (bs.getD t 0 ∉ W)
def or1 (p t : Nat) : Int := if t < p then (if W.getD t 0 ∈ bs then (ixo bs (W.getD t 0) : Int) else -1) else 0
def or2 (i t : Nat) : Int := if W.getD t 0 ∈ bs then (ixo bs (W.getD t 0) : Int) else if ixo (opnL W bs m) t < (freL W bs i).length then ((freL W bs i).getD (ixo (opnL W bs m) t) 0 : Nat) else -1
def ordF (t : Nat) : Nat := if W.getD t 0 ∈ bs then ixo bs (W.getD t 0) else (freL W bs m).getD (ixo (opnL W bs m) t) 0
def ordL : List Nat := (List.range m).map (ordF W bs m)
end
section
variable {W bs os : List Nat} {m : Nat}
theorem zNC {p t : Nat} : t ∈ opnL W bs p ↔ t < p ∧ W.getD t 0 ∉ bs := by simp [opnL]
theorem zeD {i t : Nat} : t ∈ freL W bs i ↔ t < i ∧ bs.getD t 0 ∉ W := by simp [freL]
theorem zsH (p : Nat) : (opnL W bs p).Nodup := List.Pairwise.filter _ List.nodup_range
theorem freL_nd (i : Nat) : (freL W bs i).Nodup := List.Pairwise.filter _ List.nodup_range
theorem zcJ {l : List Nat} (h : ∀ i j, i < l.length → j < l.length → l.getD i 0 = l.getD j 0 → i = j) : l.Nodup := List.pairwise_iff_getElem.2 fun i j hi hj hij e => by
 have := h i j hi hj (by simpa [hi, hj] using e); omega
theorem zFH (P : Nat → Bool) (l : List Nat) : ((List.range l.length).filter fun t => P (l.getD t 0)).length = (l.filter P).length := by
 have e : l = (List.range l.length).map fun t => l.getD t 0 := List.ext_getElem (by simp) fun i h1 h2 => by simp [h1]
 conv => rhs; rw [e, List.filter_map, List.length_map]
 rfl
theorem zHG (hW : W.length = m) (hb : bs.length = m) (nW : W.Nodup) (nb : bs.Nodup) : (opnL W bs m).length = (freL W bs m).length := by
 have h1 : (opnL W bs m).length + (W.filter fun x => decide (x ∈ bs)).length = m := by
  have := zFH (fun x => decide (x ∉ bs)) W; rw [hW] at this; unfold opnL; rw [this]; have h2 := List.length_eq_countP_add_countP (p := fun x => decide (x ∈ bs)) (l := W); simp only [List.countP_eq_length_filter] at h2; rw [hW] at h2; have e : (fun x => decide (x ∉ bs)) = fun a => decide ¬ (decide (a ∈ bs)) = true := by funext a; simp
  rw [e]; omega
 have h2 : (freL W bs m).length + (bs.filter fun x => decide (x ∈ W)).length = m := by
  have := zFH (fun x => decide (x ∉ W)) bs; rw [hb] at this; unfold freL; rw [this]; have h2 := List.length_eq_countP_add_countP (p := fun x => decide (x ∈ W)) (l := bs); simp only [List.countP_eq_length_filter] at h2; rw [hb] at h2; have e : (fun x => decide (x ∉ W)) = fun a => decide ¬ (decide (a ∈ W)) = true := by funext a; simp
  rw [e]; omega
 have h3 : (W.filter fun x => decide (x ∈ bs)).Perm (bs.filter fun x => decide (x ∈ W)) := (List.perm_ext_iff_of_nodup (nW.filter _) (nb.filter _)).2 fun a => by simp [and_comm]
 have := h3.length_eq; omega
theorem zAE {t : Nat} (ht : t < m) (hx : W.getD t 0 ∉ bs) : ixo (opnL W bs m) t < (opnL W bs m).length ∧ (opnL W bs m).getD (ixo (opnL W bs m) t) 0 = t := by
 have h : t ∈ opnL W bs m := zNC.2 ⟨ht, hx⟩; exact ⟨zHC h, zmB h⟩
theorem zAJ {s : Nat} (hs : s < (opnL W bs m).length) : ixo (opnL W bs m) ((opnL W bs m).getD s 0) = s := by
 have h := zXA hs; exact zBE (zsH m) (zHC h) hs (zmB h)
theorem ord_all (hW : W.length = m) (hb : bs.length = m) (nW : W.Nodup) (nb : bs.Nodup) (hc : ∀ x ∈ W, x ∈ bs ∨ x ∈ os) :
  (ordL W bs m).length = m ∧ (ordL W bs m).Nodup ∧ (∀ x ∈ ordL W bs m, x < m) ∧ (opnL W bs m).Nodup ∧ (∀ p ∈ opnL W bs m, p < m) ∧ (∀ p, p < m → p ∉ opnL W bs m → bs.getD ((ordL W bs m).getD p 0) 0 = W.getD p 0) ∧
  (∀ t, t < (opnL W bs m).length → (ordL W bs m).getD ((opnL W bs m).getD t 0) 0 = (freL W bs m).getD t 0 ∧ (sltL W bs os m).getD t 0 < os.length ∧ os.getD ((sltL W bs os m).getD t 0) 0 = W.getD ((opnL W bs m).getD t 0) 0) := by
 have hlen := zHG hW hb nW nb; have hat : ∀ p, p < m → (ordL W bs m).getD p 0 = ordF W bs m p := fun p hp => by simp [ordL, hp]
 have hin : ∀ p, p < m → W.getD p 0 ∈ bs → ordF W bs m p = ixo bs (W.getD p 0) := fun p _ h => if_pos h
 have hout : ∀ p, p < m → W.getD p 0 ∉ bs → ordF W bs m p = (freL W bs m).getD (ixo (opnL W bs m) p) 0 ∧ ordF W bs m p ∈ freL W bs m := fun p hp h => by
  have e : ordF W bs m p = (freL W bs m).getD (ixo (opnL W bs m) p) 0 := if_neg h; exact ⟨e, by rw [e]; exact zXA (by rw [← hlen]; exact (zAE hp h).1)⟩
 have hlt : ∀ p, p < m → ordF W bs m p < m := fun p hp => by
  by_cases h : W.getD p 0 ∈ bs
  ·rw [hin p hp h, ← hb]; exact zHC h
  ·exact (zeD.1 (hout p hp h).2).1
 refine ⟨by simp [ordL], zcJ fun i j hi hj e => ?_, fun x hx => ?_, zsH m, fun p hp => (zNC.1 hp).1, fun p hp hx => ?_, fun t ht => ?_⟩
 ·have hi' : i < m := by simpa [ordL] using hi
  have hj' : j < m := by simpa [ordL] using hj
  rw [hat i hi', hat j hj'] at e
  by_cases a : W.getD i 0 ∈ bs <;> by_cases b : W.getD j 0 ∈ bs
  ·rw [hin i hi' a, hin j hj' b] at e
   have e2 : W.getD i 0 = W.getD j 0 := by rw [← zmB a, ← zmB b, e]
   exact zBE nW (by omega) (by omega) e2
  ·have h1 := (zeD.1 (hout j hj' b).2).2
   rw [← e, hin i hi' a, zmB a] at h1; exact absurd (zXA (by omega)) h1
  ·have h1 := (zeD.1 (hout i hi' a).2).2
   rw [e, hin j hj' b, zmB b] at h1; exact absurd (zXA (by omega)) h1
  ·rw [(hout i hi' a).1, (hout j hj' b).1] at e
   have e2 := zBE (freL_nd m) (by rw [← hlen]; exact (zAE hi' a).1) (by rw [← hlen]; exact (zAE hj' b).1) e; rw [← (zAE hi' a).2, ← (zAE hj' b).2, e2]
 ·obtain ⟨p, hp, rfl⟩ := List.mem_map.1 hx
  exact hlt p (by simpa using hp)
 ·have h : W.getD p 0 ∈ bs := Classical.byContradiction fun q => hx (zNC.2 ⟨hp, q⟩)
  rw [hat p hp, hin p hp h, zmB h]
 ·have hm := zNC.1 (zXA ht)
  have hs : (sltL W bs os m).getD t 0 = ixo os (W.getD ((opnL W bs m).getD t 0) 0) := by
   unfold sltL; simp [List.getElem?_map, List.getElem?_eq_getElem ht]
  have ho : W.getD ((opnL W bs m).getD t 0) 0 ∈ os := (hc _ (zXA (by omega))).resolve_left hm.2; refine ⟨?_, ?_, ?_⟩
  ·rw [hat _ hm.1, (hout _ hm.1 hm.2).1, zAJ ht]
  ·rw [hs]; exact zHC ho
  ·rw [hs]; exact zmB ho
theorem zaF {p : Nat} (h : W.getD p 0 ∉ bs) : opnL W bs (p + 1) = opnL W bs p ++ [p] := by unfold opnL; rw [List.range_succ, List.filter_append]; simpa using h
theorem zbF {p : Nat} (h : W.getD p 0 ∈ bs) : opnL W bs (p + 1) = opnL W bs p := by unfold opnL; rw [List.range_succ, List.filter_append]; simpa using h
theorem sltL_succ {p : Nat} (h : W.getD p 0 ∉ bs) : sltL W bs os (p + 1) = sltL W bs os p ++ [ixo os (W.getD p 0)] := by unfold sltL; rw [zaF h]; simp
theorem sltL_skip {p : Nat} (h : W.getD p 0 ∈ bs) : sltL W bs os (p + 1) = sltL W bs os p := by unfold sltL; rw [zbF h]
theorem zGE {i : Nat} (h : bs.getD i 0 ∉ W) : freL W bs (i + 1) = freL W bs i ++ [i] := by unfold freL; rw [List.range_succ, List.filter_append]; simpa using h
theorem zmF {i : Nat} (h : bs.getD i 0 ∈ W) : freL W bs (i + 1) = freL W bs i := by unfold freL; rw [List.range_succ, List.filter_append]; simpa using h
theorem freL_le {i : Nat} (hi : i ≤ m) : (freL W bs i).length ≤ (freL W bs m).length := by
 unfold freL; obtain ⟨d, rfl⟩ : ∃ d, m = i + d := ⟨m - i, by omega⟩
 rw [List.range_add, List.filter_append, List.length_append]; omega
theorem or1_end {t : Nat} (ht : t < m) : or1 W bs m t = or2 W bs m 0 t := by
 unfold or1 or2; rw [if_pos ht]
 by_cases h : W.getD t 0 ∈ bs
 ·rw [if_pos h, if_pos h]
 ·rw [if_neg h, if_neg h, if_neg (by simp [freL])]
theorem or2_skip {i t : Nat} (h : bs.getD i 0 ∈ W) : or2 W bs m (i + 1) t = or2 W bs m i t := by unfold or2; rw [zmF h]
theorem or2_put {i t : Nat} (h : bs.getD i 0 ∉ W) (ht : t < m) (hs : (freL W bs i).length < (opnL W bs m).length) :
  (if t = (opnL W bs m).getD (freL W bs i).length 0 then (i : Int) else or2 W bs m i t) = or2 W bs m (i + 1) t := by
 unfold or2; rw [zGE h, List.length_append, List.length_singleton]
 by_cases e : t = (opnL W bs m).getD (freL W bs i).length 0
 ·have hm := zNC.1 (zXA hs)
  rw [if_pos e, if_neg (by rw [e]; exact hm.2)]; rw [e, zAJ hs, if_pos (by omega)]
  simp
 ·rw [if_neg e]
  by_cases a : W.getD t 0 ∈ bs
  ·rw [if_pos a, if_pos a]
  ·rw [if_neg a, if_neg a]
   have hne : ixo (opnL W bs m) t ≠ (freL W bs i).length := fun q => e (by rw [← q]; exact (zAE ht a).2.symm)
   by_cases b : ixo (opnL W bs m) t < (freL W bs i).length
   ·rw [if_pos b, if_pos (by omega)]
    simp [List.getElem?_append_left b]
   ·rw [if_neg b, if_neg (by omega)]
theorem or2_end {t : Nat} (hW : W.length = m) (hb : bs.length = m) (nW : W.Nodup) (nb : bs.Nodup) (ht : t < m) : or2 W bs m m t = ((ordL W bs m).getD t 0 : Nat) := by
 have hat : (ordL W bs m).getD t 0 = ordF W bs m t := by simp [ordL, ht]
 rw [hat]; unfold or2 ordF
 by_cases h : W.getD t 0 ∈ bs
 ·rw [if_pos h, if_pos h]
 ·rw [if_neg h, if_neg h, if_pos (by rw [← zHG hW hb nW nb]; exact (zAE ht h).1)]
end
open Go.RowKit
def wi10 (xs : List Int) : List Value := xs.map (Value.int .i64)
def zxC (w : World) (g : Nat) (L : List Value) : Prop := w.heap[g]? = some (.cells L.toArray 3 (0, 0))
theorem zxC.lt {w : World} {g : Nat} {L : List Value} (h : zxC w g L) : g < w.heap.size := (Array.getElem?_eq_some_iff.1 h).1
theorem zxC.num {w : World} {g : Nat} {xs : List Int} {r : List Value} (h : zxC w g (wi10 xs ++ r)) {i : Nat} (hi : i < xs.length) : w.cell? ⟨g, i, none⟩ = some (.int .i64 xs[i]) := by
 unfold zxC at h; have h1 : i < (wi10 xs ++ r).length := by simp [wi10]; omega
 have h2 : (wi10 xs ++ r)[i] = .int .i64 xs[i] := by
  rw [List.getElem_append_left (by simp [wi10]; exact hi)]; simp [wi10]
 have h3 : (wi10 xs ++ r)[i]? = some (.int .i64 xs[i]) := by rw [List.getElem?_eq_getElem h1, h2]
 simpa [World.cell?, h] using h3
theorem zxC.in9 {w : World} {g cap : Nat} {ds : List Int} {r : List Value} (h : zxC w g (wi10 ds ++ r)) (hc : ds.length ≤ cap) (hl : ds.length ≤ 1048576) : In9 w (.slice (some ⟨g, 0, none⟩) ds.length cap) ds :=
 ⟨_, cap, rfl, hc, hl, .inr ⟨g, 0, rfl, h.lt, fun j hj => by rw [Nat.zero_add]; exact h.num hj⟩⟩
def zOH (B : Nat) (w : World) (v : Value) (ds : List Int) : Prop := w.ownsRow B 3 1 v ds.length (wi10 ds)
theorem zOH.row {B : Nat} {w : World} {v : Value} {ds : List Int} (h : zOH B w v ds) (hn : 0 < ds.length) : ∃ g cap rest, v = .slice (some ⟨g, 0, none⟩) ds.length cap ∧ B ≤ g ∧ zxC w g (wi10 ds ++ rest) ∧ ds.length ≤ cap := by
 obtain ⟨q1, ⟨q2, q3⟩ | ⟨g, cap, cur, q2, q3, q4, q5, q6, q7, q8⟩⟩ := h
 ·omega
 ·rw [Nat.mul_one] at q7 q8
  refine ⟨g, cap, cur.toList.drop ds.length, q2, q3, ?_, q5⟩; unfold zxC; rw [← q8, List.take_append_drop]
  simpa using q4
theorem zOH.in9 {B : Nat} {w : World} {v : Value} {ds : List Int} (h : zOH B w v ds) (hl : ds.length ≤ 1048576) : In9 w v ds := by
 by_cases hn : 0 < ds.length
 ·obtain ⟨g, cap, rest, rfl, _, q, qc⟩ := h.row hn
  exact q.in9 qc hl
 ·obtain rfl : ds = [] := List.eq_nil_of_length_eq_zero (by omega)
  obtain ⟨q1, ⟨q2, q3⟩ | ⟨g, cap, cur, q2, _, _, q5, _⟩⟩ := h
  ·subst q2
   exact ⟨none, 0, rfl, Nat.le_refl _, hl, .inl rfl⟩
  ·subst q2
   exact ⟨_, cap, rfl, Nat.zero_le _, hl, .inl rfl⟩
theorem Ivs.itr {B : Nat} {w : World} {v : Value} {l : List Nat} (h : Ivs B w v l) : zOH B w v (natv l) := by
 have e1 : (natv l).length = l.length := by simp [natv]
 have e2 : wi10 (natv l) = l.map fun (a : Nat) => Value.int .i64 (a : Int) := by simp [wi10, natv]
 unfold zOH; rw [e1, e2]; exact h
theorem Ivs.in9 {B : Nat} {w : World} {v : Value} {l : List Nat} (h : Ivs B w v l) (hl : l.length ≤ 1048576) : In9 w v (natv l) := h.itr.in9 (by simp [natv]; exact hl)
theorem zwF {B : Nat} {w0 w w' : World} {v : Value} {l : List Nat} (h : Below B w0 w) (hB : B ≤ w.heap.size) (ho : Ivs B w v l) (hg : w.grownBy w' v.ownBlock) : Below B w0 w' :=
 h.trans ⟨hg.os, hg.tape, hg.output, hg.size, fun k hk => hg.block k (by omega) (fun e => by have := (ho.blk e.symm).1; omega)⟩
def ixI (l : List Nat) (x : Nat) : Int := if x ∈ l then (ixo l x : Int) else -1
def IxH (w : World) (l : List Nat) (x gk : Nat) (s8 : Value) (wx : World) : Prop := ∃ i : Nat, s8 = .int .i64 (i : Int) ∧ i ≤ l.length ∧ gk = l.length - i ∧ (∀ j, j < i → l.getD j 0 ≠ x) ∧ wx = w
theorem zFE {w : World} {v : Value} {l : List Nat} {x : Nat} (h : In9 w v (natv l)) (hl : l.length ≤ 4096) : Calls Tryz.prog 141 #[v, .int .i64 (x : Int)] w fun e w' => e = .returned (.int .i64 (ixI l x)) ∧ w' = w := by
 obtain ⟨a, c, rfl, hc, h1, hf⟩ := h.form; have e1 : (natv l).length = l.length := by simp [natv]
 rw [e1] at hc ⊢; have HI := hid h; rw [e1] at HI; have HF : Hid (0 < l.length → ∃ b off, a = some ⟨b, off, none⟩) := fun q => hf (fun e => by rw [← e1, e] at q; simp at q)
 obtain ⟨n, hn⟩ : ∃ n, l.length = n := ⟨_, rfl⟩
 have H0 : Hid (IxH w l x l.length (.int .i64 0) w) := ⟨0, rfl, Nat.zero_le _, rfl, fun j hj => by omega, rfl⟩
 rw [hn] at HI HF hl hc H0 ⊢; have HN := hid hn; clear h hf h1 e1 hn; go_enter Tryz.func141, Tryz.ntmps141; go_wp2_with fail
 go_loopg [8] n (fun gk s8 wx => IxH w l x gk s8 wx)
 case atStart => exact H0.out
 case round =>
  clear H0; obtain ⟨i, rfl, hil, hg, hj, hwx⟩ := hrel; rw [hwx]; clear hwx wr; rw [HN.out] at hil hg; have HG := hid hg; have HJ := hid hj; clear hg hj
  by_cases hlt : i < n
  ·have hlt' : (i : Int) < (n : Int) := by omega
   have hw := zQA (i := i) (by omega); obtain ⟨b, off, rfl⟩ := HF.out (by omega); have hil2 : i < l.length := by rw [HN.out]; exact hlt
   have c0 : w.cell? ⟨b, off + i, none⟩ = some (.int .i64 (l.getD i 0 : Nat)) := by
    rw [HI.out.at (i := i) (by simp [natv]; exact hil2)]; simp [natv, hil2]
   obtain ⟨y, hy⟩ : ∃ y, l.getD i 0 = y := ⟨_, rfl⟩
   rw [hy] at c0; have HY := hid hy; clear hy
   by_cases hxy : x = y
   ·have hb : ((x : Int) == (y : Int)) = true := by simp [hxy]
    have hxi : (x : Int) = (y : Int) := by omega
    have FIN : Hid (ixI l x = (i : Int)) := by
     unfold Hid ixI; rw [if_pos (by rw [hxy, ← HY.out]; exact zXA hil2), ixo_is hil2 (by rw [HY.out, hxy]) HJ.out]
    clear HG HJ HI hxy hxi; go_wp2; go_ret; exact ⟨by rw [FIN.out]; rfl, rfl⟩
   ·have hb : ((x : Int) == (y : Int)) = false := by simp; omega
    have hxi : ¬ (x : Int) = (y : Int) := by omega
    have HN1 : Hid (IxH w l x (n - (i + 1)) (.int .i64 ((i + 1 : Nat) : Int)) w) := ⟨i + 1, rfl, by rw [HN.out]; omega, by rw [HN.out], fun j hj => by
     by_cases e : j = i
     ·subst e; rw [HY.out]; omega
     ·exact HJ.out j (by omega), rfl⟩
    have HMM : Hid (n - (i + 1) < gk) := by unfold Hid; rw [HG.out]; omega
    clear HG HJ HI hxy; go_wp2_with fail; go_roundg (n - (i + 1))
    case rel => exact HN1.out
    case measure => exact HMM.out
  ·have hlt' : ¬ (i : Int) < (n : Int) := by omega
   have FIN : Hid (ixI l x = -1) := by
    unfold Hid ixI; rw [if_neg fun q => by
     obtain ⟨j, hj, e⟩ := zDH q; rw [HN.out] at hj; exact HJ.out j (by omega) e]
   clear HG HJ HI; go_wp2; go_ret; exact ⟨by rw [FIN.out]; rfl, rfl⟩
theorem contains_any {w : World} {v : Value} {l : List Nat} {x : Nat} (h : In9 w v (natv l)) (hl : l.length ≤ 4096) : Calls Tryz.prog 142 #[v, .int .i64 (x : Int)] w fun e w' => e = .returned (.bool (decide (x ∈ l))) ∧ w' = w := by
 obtain ⟨a, c, hv, -, -, -⟩ := h.form; obtain ⟨n, hn⟩ : ∃ n, (natv l).length = n := ⟨_, rfl⟩
 rw [hn] at hv; subst hv; have HI := hid (zFE (x := x) h hl); clear h hn; go_enter Tryz.func142, Tryz.ntmps142; go_wp2_with fail; refine HI.out.mono ?_; rintro e w1 ⟨rfl, hw1⟩; rw [hw1]; clear hw1 w1 HI
 by_cases hx : x ∈ l
 ·have e1 : ixI l x = ((ixo l x : Nat) : Int) := if_pos hx
  have HX := hid (decide_eq_true hx); rw [e1]; generalize ixo l x = q; have hq : (0 : Int) ≤ (q : Int) := by omega
  clear hx e1; go_wp2; go_ret; exact ⟨by rw [HX.out]; rfl, rfl⟩
 ·have e1 : ixI l x = -1 := if_neg hx
  have HX := hid (decide_eq_false hx); rw [e1]; clear hx e1; go_wp2; go_ret; exact ⟨by rw [HX.out]; rfl, rfl⟩
theorem wpList_append_row14 (w : World) {ops : Array Oper} {rest : List Oper} {o : Oper} {a : Act} {Q : Exit → Act → World → Prop}
  (hgd : o.guard = none) (s x : Operand) (hop : o.op = .call { callee := .builtin .append, args := #[s, x], argTypes := #[44, 44] })
  (B : Nat) (v : Value) (hs : a.eval s = v) (hP : Ivs B w v []) (g k : Nat) (l : List Nat) (hx : a.eval x = .slice (some ⟨g, 0, none⟩) k k) (hc : Cel w g 3 (wf k (nf l))) (hl : l.length = k) (hk : k ≤ 4096) (hBs : B ≤ w.heap.size)
  (hK : ∀ v' w', Hid (Ivs B w' v' l) → Hid (w.grownBy w' v.ownBlock) → wpList Tryz.prog ops Q rest (a.put o.dst v') w') :
  wpList Tryz.prog ops Q (o :: rest) a w := by
 refine wpList_plain hgd fun K hK' => ?_
 obtain ⟨i, hi, hz, hsz, hby⟩ := info_parts Tryz.infoI13; have hnews : ∀ j u, (l.map fun (a : Nat) => Value.int .i64 (a : Int))[j]? = some u → w.cell? ((⟨g, 0, none⟩ : Addr).add j) = some u := fun j u hj => by
  have hj' : j < k := by
   have := (List.getElem?_eq_some_iff.1 hj).1; rw [List.length_map, hl] at this; exact this
  rw [zRC, hc.nf hj']
  show some (Value.int .i64 ((l.getD j 0 : Nat) : Int)) = some u
  have hjl : j < l.length := by omega
  simp [hjl] at hj ⊢; exact hj
 obtain ⟨v', w', hr, k1, k2, -, -⟩ := run_append_own_at (P := Tryz.prog) w B 44 o.type 3 i (.int .i64 0) 1 8 Tryz.underlying44 hi hz hsz hby rfl (by omega) v 0 [] (by have := hP; unfold Ivs at this; simpa using this) ⟨g, 0, none⟩ k k _ (by rw [List.length_map, hl, Nat.mul_one]) hnews (fun u hu => by
  obtain ⟨_, _, rfl⟩ := List.mem_map.1 hu
  rfl) (by unfold maxLen; omega) (by omega) hBs
 unfold Oper.wp execOp; simp only [hop, resolve, invoke, builtin, Sem.run_bind, Sem.run_pure, Result.andThen_ok, List.map_toArray, List.map_cons, List.map_nil, hs, hx, hr]; refine hK' _ _ (hK v' w' ?_ k2); unfold Hid Ivs; rw [hl]; rw [Nat.zero_add, List.nil_append] at k1; exact k1
theorem clone_any {w : World} {g k : Nat} {l : List Nat} (hc : Cel w g 3 (wf k (nf l))) (hl : l.length = k) (hk : k ≤ 4096) : Calls Tryz.prog 120 #[.slice (some ⟨g, 0, none⟩) k k] w fun e w' => ∃ v, e = .returned v ∧ Ivs w.heap.size w' v l ∧ Below w.heap.size w w' := by
 obtain ⟨V, hV⟩ : ∃ V, w.alloc (.cells #[] 3) = V := ⟨_, rfl⟩
 obtain ⟨bv, szv⟩ := alo1 w (.cells #[] 3); rw [hV] at bv szv; have IV : Hid (Ivs w.heap.size V (.slice (some ⟨w.heap.size, 0, none⟩) 0 0) []) := by
  unfold Hid Ivs; refine ⟨by simp, .inr ⟨w.heap.size, 0, #[], by simp, Nat.le_refl _, ?_, Nat.le_refl _, Nat.zero_le _, by simp, by simp⟩⟩; rw [← hV]; exact heap_alloc_new w _
 have CV := hid (hc.step bv); have BV := hid bv; have EV := hid hV; have HL := hid hl; have hnil : ∀ W, (binOp .eql 44 (.slice (some ⟨g, 0, none⟩) k k) (.slice none 0 0)).run Tryz.prog W = .ok (.bool false) W := fun W => Lib.run_eql_slice_some_nil W _ _ _ Tryz.underlying44
 clear hc bv szv hV hl; go_enter Tryz.func120, Tryz.ntmps120; go_wp2_with (at_builtin; rw [EV.out]; refine wpList_append_row14 V rfl (.tmp 5) (.tmp 6) rfl w.heap.size _ rfl IV.out g k l rfl CV.out HL.out hk BV.out.size ?_)
 intro v' w' hI hg; have FIN : Hid (Ivs w.heap.size w' v' l ∧ Below w.heap.size w w') := ⟨hI.out, zwF BV.out BV.out.size IV.out hg.out⟩
 obtain ⟨a', c', hv', -, -⟩ := hI.out.form; rw [HL.out] at hv'; subst hv'; clear hI hg IV CV EV hnil; go_wp2; go_ret; exact ⟨_, rfl, FIN.out⟩
end Go.Proofs.YtakkmpkkoecnhaaGreat
