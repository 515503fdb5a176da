/-
  QCc17ToBu17: Cc17, Bu17, joined.
-/
import Derived.Test.YthpldhaolpmneaaGreatQG417ToLk17
import Derived.Test.YthpldhaolpmneaaGreatQEm17ToOv17
import Derived.Test.YthpldhaolpmneaaGreatQGather8ToWz17

/- Cc17 -/
namespace Go.Proofs.YthpldhaolpmneaaGreat
open Go.RowKit
set_option linter.unusedVariables false

def catN (m : Nat) (D : Nat → Nat → Nat → Value) : Nat → Nat → Value := fun t => D (t / m) (t % m)
theorem catN_step {m i : Nat} (hm : 0 < m) (D : Nat → Nat → Nat → Value) : ∀ t, t < i * m + m → cat4 (i * m) (catN m D) (D i) t = catN m D t := fun t ht => by
  unfold cat4 catN
  by_cases q : t < i * m
  · rw [if_pos q]
  · rw [if_neg q]
    have e1 : t = m * i + (t - i * m) := by rw [Nat.mul_comm m i]; omega
    have h1 : t - i * m < m := by omega
    have e2 : t / m = i := by rw [e1, Nat.mul_add_div hm, Nat.div_eq_of_lt (by omega)]; rfl
    have e3 : t % m = t - i * m := by
      conv => lhs; rw [e1]
      rw [Nat.mul_add_mod, Nat.mod_eq_of_lt (by omega)]
    rw [e2, e3]
def CaH (w : World) (n m : Nat) (gk : Nat) (s3 s11 : Value) (wx : World) : Prop := ∃ i : Nat, s3 = .int .i64 ((i * m : Nat) : Int) ∧ s11 = .int .i64 (i : Int) ∧ i ≤ n ∧ gk = n - i ∧ wx = w
def CbH (w : World) (n m : Nat) (D : Nat → Nat → Nat → Value) (gk : Nat) (s6 s27 : Value) (wx : World) : Prop := ∃ i : Nat, s27 = .int .i64 (i : Int) ∧ i ≤ n ∧ gk = n - i ∧ Own4 w.heap.size wx s6 (i * m) (catN m D) ∧ Below w.heap.size w wx
def Cat4d (w : World) (N : Nat) (C : Nat → Nat → Value) (e : Ending) (w' : World) : Prop := ∃ v, e = .returned v ∧ Own4 w.heap.size w' v N C ∧ Below w.heap.size w w'
set_option maxHeartbeats 1600000 in
set_option maxRecDepth 100000 in
theorem concat4 {w : World} {b n m : Nat} {D : Nat → Nat → Nat → Value} (hv : ∀ i, i < n → ∃ bi oi ci, w.cell? ⟨b, i, none⟩ = some (.slice (some ⟨bi, oi, none⟩) m ci) ∧ ∀ j r, j < m → r < 4 → w.cell? ⟨bi, oi + j * 4 + r, none⟩ = some (D i j r)) (hD : ∀ i j, i < n → j < m → IsQ (D i j)) (hm : 0 < m) (hm2 : m ≤ 1048576) (hl : n * m ≤ 1048576) (hn : n ≤ 1048576) :
    Calls Tryz.prog 89 #[.slice (some ⟨b, 0, none⟩) n n] w (Cat4d w (n * m) (catN m D)) := by
  have HV := hid hv
  have HD := hid hD
  have HM := hid hm
  have H0 : Hid (CaH w n m n (.int .i64 0) (.int .i64 0) w) := ⟨0, by simp, rfl, Nat.zero_le _, by omega, rfl⟩
  clear hv hD hm
  go_enter Tryz.func89, Tryz.ntmps89
  go_wp2_with fail
  go_loopg [3, 11] n (fun gk s3 s11 wx => CaH w n m gk s3 s11 wx)
  case atStart => exact H0.out
  case round =>
    clear H0
    obtain ⟨i, rfl, rfl, hin, hg, hwx⟩ := hrel
    have hwx' := hwx.symm
    subst hwx'
    clear hwx
    have HG := hid hg
    clear hg
    have him : i * m ≤ n * m := Nat.mul_le_mul_right m hin
    by_cases hlt : i < n
    · have hlt' : (i : Int) < (n : Int) := by omega
      obtain ⟨bi, oi, ci, k0, -⟩ := HV.out i hlt
      have hw := wrapI9 (i := i) (by omega)
      have e2 : (i + 1) * m = i * m + m := by rw [Nat.add_mul, Nat.one_mul]
      have e3 : (i + 1) * m ≤ n * m := Nat.mul_le_mul_right m hlt
      have HN1 : Hid (∀ lo : Nat, lo = i * m → CaH w n m (n - (i + 1)) (.int .i64 ((lo : Int) + (m : Int))) (.int .i64 ((i + 1 : Nat) : Int)) w) := fun lo hlo => ⟨i + 1, by rw [e2, hlo]; congr 1, rfl, by omega, rfl, rfl⟩
      have HMM : Hid (n - (i + 1) < gk) := by unfold Hid; rw [HG.out]; omega
      obtain ⟨lo, hlo⟩ : ∃ lo, i * m = lo := ⟨_, rfl⟩
      have HR := hid (HN1.out lo hlo.symm)
      have hs : IntKind.i64.wrap ((lo : Int) + (m : Int)) = (lo : Int) + (m : Int) := by rw [wrap_is] <;> omega
      have hs' : ¬ ((lo : Int) + (m : Int) < 0) := by omega
      rw [hlo]
      clear HN1 HG e2 e3 hlo him
      go_wp2_with fail
      go_roundg (n - (i + 1))
      case rel => exact HR.out
      case measure => exact HMM.out
    · have hlt' : ¬ (i : Int) < (n : Int) := by omega
      obtain rfl : i = n := by omega
      have HS := hid (grow4 (w := w) (N := i * m) hl)
      have HNN := hid hl
      clear him hl
      obtain ⟨N, hNN⟩ : ∃ N, i * m = N := ⟨_, rfl⟩
      have EN := hid hNN
      rw [hNN] at HS ⊢
      clear HG hNN
      go_wp2_with fail
      refine HS.out.mono ?_
      rintro e w1 ⟨v, rfl, ho, b1⟩
      have H1 : Hid (CbH w i m D i v (.int .i64 0) w1) := ⟨0, rfl, Nat.zero_le _, by omega, ⟨by rw [Nat.zero_mul]; simpa [cl4] using ho, fun j hj => by omega⟩, b1⟩
      clear HS ho b1
      go_wp2_with fail
      go_loopg [6, 27] i (fun gk s6 s27 wx => CbH w i m D gk s6 s27 wx)
      case atStart => exact H1.out
      case round =>
        clear H1
        obtain ⟨j, rfl, hjn, hg, ho, hG⟩ := hrel
        have OW := hid ho
        have G := hid hG
        have HG := hid hg
        clear ho hG hg
        by_cases hlt2 : j < i
        · have hlt2' : (j : Int) < (i : Int) := by omega
          obtain ⟨bj, oj, cj, k0, kc⟩ := HV.out j hlt2
          replace k0 := cnow G.out k0
          have KC : Hid (∀ t r, t < m → r < 4 → wr.cell? ⟨bj, oj + t * 4 + r, none⟩ = some (D j t r)) := fun t r ht hr => cnow G.out (kc t r ht hr)
          have HDJ : Hid (∀ t, t < m → IsQ (D j t)) := fun t ht => HD.out j t hlt2 ht
          have HLN : Hid (j * m + m ≤ 1048576) := by
            unfold Hid
            have h2 : (j + 1) * m ≤ i * m := Nat.mul_le_mul_right m hlt2
            rw [Nat.succ_mul] at h2
            have h3 := HNN.out
            omega
          have hw := wrapI9 (i := j) (by omega)
          clear kc
          go_wp2_with (at_builtin; refine wpList_append_four _ rfl (.tmp 31) (.tmp 32) rfl w.heap.size (j * m) m cj bj oj _ (catN m D) (D j) rfl OW.out rfl KC.out HDJ.out HM.out HLN.out G.out.size ?_)
          intro g2 cap2 w2 l2 hl2 ho2 hg2 hb2
          have HN1 : Hid (CbH w i m D (i - (j + 1)) (.slice (some ⟨g2, 0, none⟩) l2 cap2) (.int .i64 ((j + 1 : Nat) : Int)) w2) := ⟨j + 1, rfl, by omega, rfl, by
            rw [Nat.succ_mul]
            exact ho2.out.congr (catN_step HM.out D), Own4.below G.out OW.out hg2.out G.out.size⟩
          have HMM : Hid (i - (j + 1) < gk) := by unfold Hid; rw [HG.out]; omega
          clear OW G HG ho2 hg2 hb2 hl2 HLN KC HDJ k0
          go_wp2_with fail
          go_roundg (i - (j + 1))
          case rel => exact HN1.out
          case measure => exact HMM.out
        · have hlt2' : ¬ (j : Int) < (i : Int) := by omega
          obtain rfl : j = i := by omega
          have FIN2 : Hid (∀ v6, Own4 w.heap.size wr v6 (j * m) (catN m D) → Cat4d w (j * m) (catN m D) (.returned v6) wr) := fun v6 h => ⟨v6, rfl, h, G.out⟩
          have FIN := hid (FIN2.out _ OW.out)
          clear FIN2 OW G HG
          go_wp2
          go_ret
          exact FIN.out
end Go.Proofs.YthpldhaolpmneaaGreat

/- Bu17 -/
namespace Go.Proofs.YthpldhaolpmneaaGreat
open Go.RowKit
set_option linter.unusedVariables false

/-- make at a step of a region that draws its order. -/
theorem step_make_pairs17 (w : World) {ops : Array Oper} {o : Oper} {a : Act} {K : Act → World → Prop} {Q : Exit → Act → World → Prop} {E : Prop}
    (hgd : o.guard = none) (l c : Operand) (hop : o.op = Op.makeSlice 33 l c)
    (L C : Int) (n m : Nat) (hl : a.eval l = .int .i64 L) (hc : a.eval c = .int .i64 C) (hL : L = (n : Int)) (hC : C = (m : Int)) (hnm : n ≤ m) (hm : m ≤ 2000000)
    (hK : ∀ w', Hid (Arr w' w.heap.size (List.replicate m zpair)) → Hid (Below w.heap.size w w') → Hid (w'.heap.size = w.heap.size + 1) → K (a.put o.dst (.slice (some ⟨w.heap.size, 0, none⟩) n m)) w') :
    if Region.wanted o (yielded ops a.tmps) = true then Oper.wp Tryz.prog o a w K Q else E := by
  have hw : Region.wanted o (yielded ops a.tmps) = true := by simp [Region.wanted, hgd]
  rw [if_pos hw]
  obtain ⟨i, hi, hz, hs, hb⟩ := info_parts Tryz.infoZ9
  have hrun := run_make (P := Tryz.prog) w 33 45 i (.agg #[.bool false, .slice none 0 0]) Tryz.underlying33 hi hz .i64 .i64 n m (by omega) (by omega) (by rw [hb]; omega) (by omega)
  subst hL
  subst hC
  rw [hs, Int.toNat_natCast, Int.toNat_natCast, madeCells_pairs9] at hrun
  unfold Oper.wp
  simp [execOp, hop, hl, hc, hrun, Result.andThen]
  refine hK _ ⟨?_, fun p hp => ?_⟩ ((Below.refl _ _).alloc (Nat.le_refl _) _) ?_
  · unfold Cel; exact heap_alloc_new w _
  · rw [List.eq_of_mem_replicate hp]; exact ⟨false, none, 0, 0, rfl⟩
  · unfold Hid; simp
theorem Qs.cells {w : World} {b off l c n k : Nat} {P Q : Nat → Int} (h : Qs w (.slice (some ⟨b, off, none⟩) l c) n P Q k) : ∃ D : Nat → Nat → Value, (∀ j r, j < n → r < 4 → w.cell? ⟨b, off + j * 4 + r, none⟩ = some (D j r)) ∧ (∀ j, j < n → IsQ (D j)) ∧ ∀ j, j < n → Zi w (.agg #[D j 0, D j 1]) (P j) k ∧ Zi w (.agg #[D j 2, D j 3]) (Q j) k := by
  obtain ⟨D, hD⟩ := Deep.choose_lt (α := Nat → Value) (n := n) (p := fun j D => (w.cell? ⟨b, off + j * 4, none⟩ = some (D 0) ∧ w.cell? ⟨b, off + j * 4 + 1, none⟩ = some (D 1) ∧ w.cell? ⟨b, off + j * 4 + 2, none⟩ = some (D 2) ∧ w.cell? ⟨b, off + j * 4 + 3, none⟩ = some (D 3)) ∧ IsQ D ∧ Zi w (.agg #[D 0, D 1]) (P j) k ∧ Zi w (.agg #[D 2, D 3]) (Q j) k) (fun j hj => by
    obtain ⟨n1, a1, l1, c1, n2, a2, l2, c2, e1, e2, e3, e4, e5, e6⟩ := h.at hj
    exact ⟨fun r => match r with
      | 0 => .bool n1
      | 1 => .slice a1 l1 c1
      | 2 => .bool n2
      | _ => .slice a2 l2 c2, ⟨e1, e2, e3, e4⟩, ⟨n1, a1, l1, c1, n2, a2, l2, c2, rfl, rfl, rfl, rfl⟩, e5, e6⟩)
  refine ⟨D, fun j r hj hr => ?_, fun j hj => (hD j hj).2.1, fun j hj => (hD j hj).2.2⟩
  obtain ⟨h0, h1, h2, h3⟩ := (hD j hj).1
  match r, hr with
  | 0, _ => exact h0
  | 1, _ => exact h1
  | 2, _ => exact h2
  | 3, _ => exact h3
theorem FilQ.cellsD {w : World} {g n k : Nat} {R : Nat → Rat} (h : FilQ w g n n R k) : ∃ D : Nat → Nat → Value, (∀ j r, j < n → r < 4 → w.cell? ⟨g, 0 + j * 4 + r, none⟩ = some (D j r)) ∧ (∀ j, j < n → IsQ (D j)) ∧ ∀ j, j < n → Zm 0 w (.agg #[D j 0, D j 1]) (R j).num k ∧ Zm 0 w (.agg #[D j 2, D j 3]) ((R j).den : Int) k := by
  obtain ⟨C, c1, c2, c3⟩ := h
  exact ⟨C, fun j r hj hr => by rw [Nat.zero_add]; exact c1.at (cl4_at hj hr), c2, c3⟩
/-- Lists of fractions, gathered. -/
def Gln (B : Nat) (w : World) (v : Value) (t n : Nat) (C : Nat → Nat → Nat → Value) : Prop := ∃ vs, w.ownsRow B 22 1 v t vs ∧ ∀ i, i < t → ∃ a c, vs[i]? = some (.slice a n c) ∧ Own4 B w (.slice a n c) n (C i)
theorem Gln.nil (B : Nat) (w : World) (n : Nat) (C : Nat → Nat → Nat → Value) : Gln B w (.slice none 0 0) 0 n C := ⟨[], World.ownsRow_nil _ _ _ _, fun i hi => by omega⟩
theorem Gln.now {B t n : Nat} {w w' : World} {v : Value} {C : Nat → Nat → Nat → Value} (h : Gln B w v t n C) (hb : Below w.heap.size w w') : Gln B w' v t n C := by
  obtain ⟨vs, h1, h2⟩ := h
  refine ⟨vs, owns_keep h1 fun b _ hlt => hb.block b hlt, fun i hi => ?_⟩
  obtain ⟨a, c, e1, e2⟩ := h2 i hi
  exact ⟨a, c, e1, e2.now hb⟩
theorem Gln.form {B t n : Nat} {w : World} {v : Value} {C : Nat → Nat → Nat → Value} (h : Gln B w v t n C) : ∃ a cap, v = .slice a t cap := by
  obtain ⟨vs, ⟨q1, ⟨q2, q3⟩ | ⟨g, cap, cur, q2, q3, q4, q5, q6, q7, q8⟩⟩, _⟩ := h
  · exact ⟨_, _, by rw [q2, q3]⟩
  · exact ⟨_, _, q2⟩
theorem Gln.congr {B t n : Nat} {w : World} {v : Value} {C D : Nat → Nat → Nat → Value} (h : Gln B w v t n C) (e : ∀ i, i < t → C i = D i) : Gln B w v t n D := by
  obtain ⟨vs, h1, h2⟩ := h
  exact ⟨vs, h1, fun i hi => by rw [← e i hi]; exact h2 i hi⟩
theorem wpList_append_gln (w : World) {ops : Array Oper} {rest : List Oper} {o : Oper} {a : Act} {Q : Exit → Act → World → Prop}
    (hgd : o.guard = none) (s x : Operand) (hop : o.op = .call { callee := .builtin .append, args := #[s, x], argTypes := #[71, 71] })
    (B t n q : Nat) (v : Value) (ar : Option Addr) (cr : Nat) (C : Nat → Nat → Nat → Value) (hs : a.eval s = v) (hB : Gln B w v t n C) (hx : a.eval x = .slice (some ⟨q, 0, none⟩) 1 1) (hc0 : w.cell? ⟨q, 0, none⟩ = some (.slice ar n cr)) (hr : Own4 B w (.slice ar n cr) n (C t)) (hlen : t < 1000) (hBs : B ≤ w.heap.size)
    (hK : ∀ g' l' cap' w', Hid (Gln B w' (.slice (some ⟨g', 0, none⟩) l' cap') (t + 1) n C) → Hid (Ty 22 w w') → Hid (∀ w0, Below B w0 w → Below B w0 w') → Hid (w.grownBy w' v.ownBlock) → Hid (v.ownBlock = some g' ∨ g' = w.heap.size) → wpList Tryz.prog ops Q rest (a.put o.dst (.slice (some ⟨g', 0, none⟩) l' cap')) w') :
    wpList Tryz.prog ops Q (o :: rest) a w := by
  obtain ⟨i, hii, hzz, hsz, hby⟩ := info_parts Tryz.infoS17
  obtain ⟨vs, h1, h2⟩ := hB
  have ea : ∀ j, (⟨q, 0, none⟩ : Addr).add j = ⟨q, j, none⟩ := fun j => by unfold Addr.add; split <;> simp_all
  refine wpList_append_lies w hgd s x 71 hop B 22 i (.slice none 0 0) 1 24 Tryz.underlying71 hii hzz hsz hby rfl (by omega) v t vs hs h1 ⟨q, 0, none⟩ 1 1 [.slice ar n cr] hx rfl ?_ ?_ (by omega) (by unfold maxLen; omega) (by omega) hBs w.heap.size rfl ?_
  · intro j u' hj
    match j, hj with
    | 0, hj => simp at hj; subst hj; rw [ea]; exact hc0
  · intro u' hu'
    simp at hu'
    subst hu'
    rfl
  · intro g' cap' w' k1 k2 k3 k4
    have ht := Ty.grown h1 k2
    have hl : vs.length = t := by have := h1.1; omega
    refine hK g' _ cap' w' ⟨vs ++ [.slice ar n cr], k1, fun j hj => ?_⟩ ht (fun w0 hb => grown_owns17 hb h1 k2 hBs) k2 k3
    by_cases q : j < t
    · obtain ⟨a', c', e1, e2⟩ := h2 j q
      exact ⟨a', c', by rw [List.getElem?_append_left (by omega)]; exact e1, e2.ty ht (by decide)⟩
    · obtain rfl : j = t := by omega
      exact ⟨ar, cr, by rw [List.getElem?_append_right (by omega), hl]; simp, hr.ty ht (by decide)⟩
theorem FilS.keep17 {w w' : World} {g n i : Nat} {P : Nat → Value → Prop} (h : FilS w g n i P) (hk : w'.heap[g]? = w.heap[g]?) : FilS w' g n i P := by
  obtain ⟨vs, h1, h2, h3, h4⟩ := h
  exact ⟨vs, hk.trans h1, h2, h3, h4⟩
/-- As lists that may be read. -/
theorem Gln.qls {B t n k : Nat} {w : World} {v : Value} {C : Nat → Nat → Nat → Value} {P Q : Nat → Nat → Int} (h : Gln B w v t n C) (hn : n ≤ 1048576) (hz : ∀ i j, i < t → j < n → Zi w (.agg #[C i j 0, C i j 1]) (P i j) k ∧ Zi w (.agg #[C i j 2, C i j 3]) (Q i j) k) : QLs w v t n P Q k := by
  obtain ⟨vs, h1, h2⟩ := h
  have h0 := h1
  obtain ⟨q1, ⟨q2, q3⟩ | ⟨g, cap, cur, q2, q3, q4, q5, q6, q7, q8⟩⟩ := h1
  · exact ⟨none, 0, by rw [q2, q3], by omega, .inl q3⟩
  · refine ⟨_, cap, q2, q5, .inr ⟨g, 0, rfl, (Array.getElem?_eq_some_iff.1 q4).1, fun i hi => ?_⟩⟩
    obtain ⟨a', c', e1, e2⟩ := h2 i hi
    refine ⟨.slice a' n c', ?_, e2.qs hn fun j hj => hz i j hi hj⟩
    have e := World.ownsRow.cells h0 (g := g) (by rw [q2]; rfl) _ _ e1
    have ea : (⟨g, 0, none⟩ : Addr).add i = ⟨g, i, none⟩ := by unfold Addr.add; split <;> simp_all
    rw [ea] at e
    rw [Nat.zero_add]
    exact e
end Go.Proofs.YthpldhaolpmneaaGreat
