/-
  Ns14: the reference's Next and LikeNums; below100003.
-/
import Derived.Test.YtplldfnldaehiaaQSp14ToIx14
namespace Go.Proofs.Ytplldfnldaehiaa
open Go.RowKit
set_option linter.unusedVariables false

/-- A rising list of numbers below n ends high enough. -/
theorem up_le14 {n : Nat} : ∀ {l : List Nat}, l.Pairwise (· < ·) → (∀ x ∈ l, x < n) → ∀ t, t < l.length → l.getD t 0 + (l.length - t) ≤ n
  | [], _, _, t, ht => by simp at ht
  | a :: m, hp, hn, 0, _ => by
    show a + (m.length + 1) ≤ n
    match m, hp, hn with
    | [], _, hn =>
      have := hn a (by simp)
      show a + (0 + 1) ≤ n
      omega
    | b :: m', hp, hn =>
      have hp' := List.pairwise_cons.1 hp
      have h1 := up_le14 (n := n) hp'.2 (fun x hx => hn x (by simp [hx])) 0 (by simp)
      have h2 := hp'.1 b (by simp)
      simp at h1 ⊢
      omega
  | a :: m, hp, hn, t + 1, ht => by
    have hp' := List.pairwise_cons.1 hp
    have h1 := up_le14 (n := n) hp'.2 (fun x hx => hn x (by simp [hx])) t (by simpa using ht)
    simp at h1 ⊢
    omega
theorem wn_wf {l : List Nat} {k : Nat} (hl : l.length = k) : (l.map fun (a : Nat) => Value.int .i64 (a : Int)) = wf k (nf l) := by
  apply List.ext_getElem?
  intro t
  by_cases q : t < k
  · rw [wf_at q]
    have : t < l.length := by omega
    simp [nf, this]
  · rw [List.getElem?_eq_none (by simp; omega), List.getElem?_eq_none (by simp [wf]; omega)]
theorem wf_len (k : Nat) (F : Nat → Int) : (wf k F).length = k := by simp [wf]
/-- The row of a list, with what lies behind it. -/
theorem Ivs.cel14 {B g n cap : Nat} {w : World} {l : List Nat} (h : Ivs B w (.slice (some ⟨g, 0, none⟩) n cap) l) : ∃ r, Cel w g 3 (wf l.length (nf l) ++ r) ∧ l.length + r.length = cap ∧ cap ≤ maxLen ∧ B ≤ g ∧ n = l.length := by
  obtain ⟨q1, ⟨q2, q3⟩ | ⟨g', cap', cur, q2, q3, q4, q5, q6, q7, q8⟩⟩ := h
  · cases q2
  · simp only [Value.slice.injEq, Option.some.injEq, Addr.mk.injEq, and_true] at q2
    obtain ⟨rfl, rfl, rfl⟩ := q2
    refine ⟨cur.toList.drop l.length, ?_, ?_, q6, q3, rfl⟩
    · unfold Cel
      rw [Nat.mul_one] at q8
      rw [← wn_wf rfl, ← q8, List.take_append_drop]
      exact q4
    · have h7 : cur.toList.length = cap := by rw [Array.length_toList, q7, Nat.mul_one]
      rw [List.length_drop, h7]
      omega
theorem Ivs.of14 {B g cap k : Nat} {w : World} {l : List Nat} {r : List Value} (h : Cel w g 3 (wf k (nf l) ++ r)) (hl : l.length = k) (h1 : k + r.length = cap) (h2 : cap ≤ maxLen) (h3 : B ≤ g) : Ivs B w (.slice (some ⟨g, 0, none⟩) k cap) l := by
  subst hl
  refine ⟨by simp, .inr ⟨g, cap, _, rfl, h3, h, by omega, h2, by simp [wf_len]; omega, ?_⟩⟩
  rw [wn_wf rfl]
  simp only [Nat.mul_one]
  rw [List.take_append_of_le_length (by rw [wf_len]; exact Nat.le_refl _), List.take_of_length_le (by rw [wf_len]; exact Nat.le_refl _)]
theorem Cel.nr {w : World} {g k i : Nat} {F : Nat → Int} {r : List Value} (h : Cel w g 3 (wf k F ++ r)) (hi : i < k) : w.cell? ⟨g, i, none⟩ = some (.int .i64 (F i)) := h.at (by rw [List.getElem?_append_left (by rw [wf_len]; exact hi)]; exact wf_at hi)
theorem Cel.nrset {w : World} {g k i : Nat} {F : Nat → Int} {r : List Value} (h : Cel w g 3 (wf k F ++ r)) (hi : i < k) (z : Int) : Cel (w.setCell ⟨g, i, none⟩ (.int .i64 z)) g 3 (wf k (upF F i z) ++ r) := by
  rw [← wf_set hi z, ← List.set_append_left i _ (by rw [wf_len]; exact hi)]
  exact h.set i _
/-- A list laid behind an empty one. -/
theorem wpList_append_list14 (w : World) {ops : Array Oper} {rest : List Oper} {o : Oper} {a : Act} {Q : Exit → Act → World → Prop}
    (hgd : o.guard = none) (s x : Operand) (hop : o.op = .call { callee := .builtin .append, args := #[s, x], argTypes := #[29, 29] })
    (B B' : Nat) (v : Value) (hs : a.eval s = v) (hP : Ivs B w v []) (g k c : Nat) (l : List Nat) (hx : a.eval x = .slice (some ⟨g, 0, none⟩) k c) (hc : Ivs B' w (.slice (some ⟨g, 0, none⟩) k c) l) (hl : l.length = k) (hk : k ≤ 4096) (hk0 : 0 < k) (hBs : B ≤ w.heap.size)
    (hK : ∀ g' cap' w', Hid (Ivs B w' (.slice (some ⟨g', 0, none⟩) k cap') l) → Hid (w.grownBy w' v.ownBlock) → wpList Try.prog ops Q rest (a.put o.dst (.slice (some ⟨g', 0, none⟩) k cap')) w') :
    wpList Try.prog ops Q (o :: rest) a w := by
  refine wpList_plain hgd fun K hK' => ?_
  obtain ⟨i, hi, hz, hsz, hby⟩ := info_parts Try.infoI13
  obtain ⟨r, hr, hrc, hcm, -, -⟩ := hc.cel14
  have hnews : ∀ j u, (l.map fun (a : Nat) => Value.int .i64 (a : Int))[j]? = some u → w.cell? ((⟨g, 0, none⟩ : Addr).add j) = some u := fun j u hj => by
    have hj' : j < l.length := by
      have := (List.getElem?_eq_some_iff.1 hj).1
      rw [List.length_map] at this
      exact this
    rw [head_add13, hr.nr hj']
    show some (Value.int .i64 ((l.getD j 0 : Nat) : Int)) = some u
    simp [hj'] at hj ⊢
    exact hj
  obtain ⟨v', w', hr, k1, k2, -, -⟩ := run_append_own_at (P := Try.prog) w B 29 o.type 3 i (.int .i64 0) 1 8 Try.underlying29 hi hz hsz hby rfl (by omega) v 0 [] (by have := hP; unfold Ivs at this; simpa using this) ⟨g, 0, none⟩ k c _ (by rw [List.length_map, hl, Nat.mul_one]) hnews (fun u hu => by
    obtain ⟨_, _, rfl⟩ := List.mem_map.1 hu
    rfl) (by unfold maxLen; omega) (by omega) hBs
  have hI : Ivs B w' v' l := by
    unfold Ivs
    rw [hl]
    rw [Nat.zero_add, List.nil_append] at k1
    exact k1
  obtain ⟨a', c', rfl, -, hf⟩ := hI.form
  obtain ⟨g', rfl⟩ := hf (by omega)
  rw [hl] at hI hr
  unfold Oper.wp execOp
  simp only [hop, resolve, invoke, builtin, Sem.run_bind, Sem.run_pure, Result.andThen_ok, List.map_toArray, List.map_cons, List.map_nil, hs, hx, hr]
  exact hK' _ _ (hK g' c' w' hI k2)
/-- What Next answers. -/
def Nexted (w : World) (n k : Nat) (l : List Nat) (e : Ending) (w' : World) : Prop :=
  (nxt n l = none ∧ e = .returned (.slice none 0 0) ∧ w' = w) ∨ ∃ l' g cap, nxt n l = some l' ∧ l'.length = k ∧ 0 < k ∧ e = .returned (.slice (some ⟨g, 0, none⟩) k cap) ∧ Ivs w.heap.size w' (.slice (some ⟨g, 0, none⟩) k cap) l' ∧ Below w.heap.size w w'
def NxH (w : World) (l : List Nat) (n k gk : Nat) (s6 : Value) (wx : World) : Prop :=
  ∃ u : Nat, s6 = .int .i64 ((u : Int) - 1) ∧ u ≤ k ∧ gk = u ∧ (∀ j, u ≤ j → j < k → n ≤ l.getD j 0 + (k - j)) ∧ wx = w
def NwH (w : World) (g : Nat) (l : List Nat) (r : List Value) (i k gk : Nat) (s8 : Value) (wx : World) : Prop :=
  ∃ v : Nat, s8 = .int .i64 (v : Int) ∧ i < v ∧ v ≤ k ∧ gk = k - v ∧ Cel wx g 3 (wf k (sqF l i v) ++ r) ∧ Below w.heap.size w wx
set_option maxHeartbeats 3200000 in
set_option maxRecDepth 100000 in
theorem next_any {B : Nat} {w : World} {v : Value} {k n : Nat} {l : List Nat} (hv : Ivs B w v l) (hl : l.length = k) (hk : k ≤ 64) (hn : n ≤ 64) (hup : ∀ t, t < k → l.getD t 0 + (k - t) ≤ n) :
    Calls Try.prog 10 #[v, .int .i64 (n : Int)] w (Nexted w n k l) := by
  obtain ⟨av, cv, rfl, hcv, hav⟩ := hv.form
  have VV := hid hv
  have HAV := hid hav
  rw [hl] at VV HAV hcv ⊢
  have HL := hid hl
  have HUP := hid hup
  have H1 : Hid (NxH w l n k k (.int .i64 ((k : Int) - 1)) w) := ⟨k, rfl, Nat.le_refl _, rfl, fun j h1 h2 => by omega, rfl⟩
  have hw2 : IntKind.i64.wrap ((k : Int) - 1) = (k : Int) - 1 := by rw [wrap_is] <;> omega
  clear hv hav hl hup
  go_enter Try.func10, Try.ntmps10
  go_wp2_with fail
  clear hw2
  go_loopg [6] k (fun gk s6 wx => NxH w l n k gk s6 wx)
  case atStart => exact H1.out
  case round =>
    clear H1
    obtain ⟨u, rfl, huk, hg, hh, hwx⟩ := hrel
    rw [hwx]
    clear hwx wr
    have HG := hid hg
    have HH := hid hh
    clear hg hh
    by_cases hu : u = 0
    · subst hu
      have e1 : ((0 : Nat) : Int) - 1 = -1 := by omega
      rw [e1]
      have FIN : Hid (Nexted w n k l (.returned (.slice none 0 0)) w) := .inl ⟨nxt_high fun i hi => by
        have := HH.out i (by omega) (by rw [← HL.out]; exact hi)
        rw [HL.out]; exact this, rfl, rfl⟩
      clear HG HH VV HL HUP HAV e1
      go_wp2
      go_ret
      exact FIN.out
    · obtain ⟨i, rfl⟩ : ∃ i, u = i + 1 := ⟨u - 1, by omega⟩
      have ei : ((i + 1 : Nat) : Int) - 1 = (i : Int) := by omega
      rw [ei]
      have hik : i < k := by omega
      have hik' : (i : Int) < (k : Int) := by omega
      obtain ⟨g, rfl⟩ := HAV.out (by omega)
      have c0 := VV.out.at (i := i) (by rw [HL.out]; exact hik)
      obtain ⟨x, hx⟩ : ∃ x, l.getD i 0 = x := ⟨_, rfl⟩
      rw [hx] at c0
      have hup := HUP.out i hik
      rw [hx] at hup
      have HX := hid hx
      have hi0 : (0 : Int) ≤ (i : Int) := by omega
      have hwa : IntKind.i64.wrap ((n : Int) - (k : Int)) = (n : Int) - (k : Int) := by rw [wrap_is] <;> omega
      have hwb : IntKind.i64.wrap ((n : Int) - (k : Int) + (i : Int)) = (n : Int) - (k : Int) + (i : Int) := by rw [wrap_is] <;> omega
      clear hu ei hx
      by_cases heq : (x : Int) = (n : Int) - (k : Int) + (i : Int)
      · have hbe : ((x : Int) == (n : Int) - (k : Int) + (i : Int)) = true := by simp [heq]
        have hwi : IntKind.i64.wrap ((i : Int) - 1) = (i : Int) - 1 := by rw [wrap_is] <;> omega
        have HN1 : Hid (NxH w l n k i (.int .i64 ((i : Int) - 1)) w) := ⟨i, rfl, by omega, rfl, fun j h1 h2 => by
          by_cases q : j = i
          · subst q; rw [HX.out]; omega
          · exact HH.out j (by omega) h2, rfl⟩
        have HMM : Hid (i < gk) := by unfold Hid; rw [HG.out]; omega
        clear HG HH heq
        go_wp2_with fail
        go_roundg i
        case rel => exact HN1.out
        case measure => exact HMM.out
      · have hbe : ((x : Int) == (n : Int) - (k : Int) + (i : Int)) = false := by simp; exact heq
        have hneg : ¬ (i : Int) < 0 := by omega
        have HNX : Hid (nxt n l = some (l.take i ++ seqN (x + 1) (k - i))) := by
          unfold Hid
          have := nxt_at (n := n) (i := i) (l := l) (by rw [HL.out]; exact hik) (by rw [HL.out, HX.out]; omega) (fun j h1 h2 => by
            rw [HL.out] at h2 ⊢
            exact HH.out j (by omega) h2)
          rw [HL.out, HX.out] at this
          exact this
        obtain ⟨V, hV⟩ : ∃ V, w.alloc (.cells #[] 3) = V := ⟨_, rfl⟩
        obtain ⟨bv, szv⟩ := alo1 w (.cells #[] 3)
        rw [hV] at bv szv
        have IV : Hid (Ivs w.heap.size V (.slice (some ⟨w.heap.size, 0, none⟩) 0 0) []) := by
          unfold Hid Ivs
          refine ⟨by simp, .inr ⟨w.heap.size, 0, #[], by simp, Nat.le_refl _, ?_, Nat.le_refl _, Nat.zero_le _, by simp, by simp⟩⟩
          rw [← hV]
          exact heap_alloc_new w _
        have VV2 := hid (VV.out.now bv)
        have BV := hid bv
        have EV := hid hV
        have hk0 : 0 < k := by omega
        clear HG HH VV heq bv szv hV
        go_wp2_with (at_builtin; rw [EV.out]; refine wpList_append_list14 V rfl (.tmp 31) (.tmp 32) rfl w.heap.size B _ rfl IV.out g k cv l rfl VV2.out HL.out (by omega) hk0 BV.out.size ?_)
        intro g' cap' w3 hI hg
        have B3 := hid (below_own BV.out BV.out.size IV.out hg.out)
        obtain ⟨r, hr, hrc, hcm, hBg, -⟩ := hI.out.cel14
        rw [HL.out] at hr hrc
        have CR := hid hr
        have hkc : k ≤ cap' := by omega
        have HRC := hid hrc
        have HCM := hid hcm
        have HBG := hid hBg
        have c1 : w3.cell? ⟨g', i, none⟩ = some (.int .i64 (x : Int)) := by rw [CR.out.nr hik]; show some (Value.int .i64 ((l.getD i 0 : Nat) : Int)) = _; rw [HX.out]
        have f1 := CR.out.fz i
        have hwx := wrapI9 (i := x) (by omega)
        have H2 : Hid (NwH w g' l r i k (k - (i + 1)) (.int .i64 ((i + 1 : Nat) : Int)) (w3.setCell ⟨g', i, none⟩ (.int .i64 ((x + 1 : Nat) : Int)))) := ⟨i + 1, rfl, by omega, by omega, rfl, by
          have := CR.out.nrset hik ((l.getD i 0 + 1 + (i - i) : Nat) : Int)
          rw [wf_congr fun t _ => (show upF (nf l) i _ t = sqF l i (i + 1) t by
            rw [← sqF_put (Nat.le_refl i) t]
            unfold upF
            rw [sqF_zero]), HX.out, Nat.sub_self, Nat.add_zero] at this
          exact this, bset B3.out HBG.out⟩
        have hwj := wrapI9 (i := i) (by omega)
        clear IV VV2 BV EV hI hg hr hrc hcm hBg CR c0
        go_wp2_with fail
        go_loopg [8] (k - (i + 1)) (fun gk s8 wx => NwH w g' l r i k gk s8 wx)
        case atStart => exact H2.out
        case round =>
          clear H2 c1 f1
          obtain ⟨v, rfl, hiv, hvk, hg, hcv, htv⟩ := hrel
          have CV := hid hcv
          have TV := hid htv
          have HG := hid hg
          clear hg hcv htv
          by_cases hlv : v < k
          · have hlv' : (v : Int) < (k : Int) := by omega
            have hwv := wrapI9 (i := v) (by omega)
            have hwm : IntKind.i64.wrap ((v : Int) - 1) = ((v - 1 : Nat) : Int) := by rw [wrap_is] <;> omega
            have hvm : v - 1 < k := by omega
            have hvm' : ((v - 1 : Nat) : Int) < (k : Int) := by omega
            have e0 : wr.cell? ⟨g', v - 1, none⟩ = some (.int .i64 ((x + (v - i) : Nat) : Int)) := by
              rw [CV.out.nr hvm]
              show some (Value.int .i64 (sqF l i v (v - 1))) = _
              unfold sqF
              rw [if_neg (by omega), if_pos (by omega), HX.out]
              congr 2
              omega
            have e2 := CV.out.nr hlv
            have e1 := CV.out.fz v
            obtain ⟨y, hy⟩ : ∃ y, x + (v - i) = y := ⟨_, rfl⟩
            rw [hy] at e0
            have hyb : y ≤ 1000000 := by omega
            have hwy := wrapI9 (i := y) (by omega)
            have HN1 : Hid (NwH w g' l r i k (k - (v + 1)) (.int .i64 ((v + 1 : Nat) : Int)) (wr.setCell ⟨g', v, none⟩ (.int .i64 ((y + 1 : Nat) : Int)))) := ⟨v + 1, rfl, by omega, by omega, rfl, by
              have := CV.out.nrset hlv ((l.getD i 0 + 1 + (v - i) : Nat) : Int)
              rw [wf_congr fun t _ => sqF_put (by omega) t, HX.out, show x + 1 + (v - i) = y + 1 by omega] at this
              exact this, bset TV.out HBG.out⟩
            have HMM : Hid (k - (v + 1) < gk) := by unfold Hid; rw [HG.out]; omega
            have hlc : (v : Int) < (cap' : Int) := by omega
            clear CV TV HG hy
            go_wp2_with fail
            go_roundg (k - (v + 1))
            case rel => exact HN1.out
            case measure => exact HMM.out
          · have hlv' : ¬ (v : Int) < (k : Int) := by omega
            obtain rfl : v = k := by omega
            have FIN : Hid (Nexted w n v l (.returned (.slice (some ⟨g', 0, none⟩) v cap')) wr) := by
              have hlen : (l.take i ++ seqN (x + 1) (v - i)).length = v := by
                rw [List.length_append, List.length_take, seqN_len, HL.out]; omega
              refine .inr ⟨_, g', cap', HNX.out, hlen, hk0, rfl, Ivs.of14 (r := r) ?_ hlen HRC.out HCM.out HBG.out, TV.out⟩
              have := CV.out
              rw [wf_congr fun t ht => sqF_end (by omega) HL.out ht, HX.out] at this
              exact this
            clear CV TV HG HNX HRC HCM HBG
            go_wp2
            go_ret
            exact FIN.out
set_option maxHeartbeats 1600000 in
set_option maxRecDepth 100000 in
theorem likeNums_yes {B B' : Nat} {w : World} {v u : Value} {l : List Nat} (h : Ivs B w v l) (h' : Ivs B' w u l) (hl : l.length ≤ 4096) :
    Calls Try.prog 9 #[v, u] w fun e w' => e = .returned (.bool true) ∧ Below w.heap.size w w' := by
  obtain ⟨a, c, rfl, hc, hf⟩ := h.form
  obtain ⟨a', c', rfl, hc', hf'⟩ := h'.form
  have V1 := hid h
  have V2 := hid h'
  have F1 := hid hf
  have F2 := hid hf'
  obtain ⟨n, hn⟩ : ∃ n, l.length = n := ⟨_, rfl⟩
  rw [hn] at V1 V2 F1 F2 hc hc' hl ⊢
  have HN := hid hn
  have hne : ((n : Int) != (n : Int)) = false := by simp
  clear h h' hf hf' hn
  go_enter Try.func9, Try.ntmps9
  go_wp2
  go_loopw [5] (fun i wr => ∃ k q : Nat, k ≤ n ∧ i = .int .i64 k ∧ wr = w.drewN q) (fun i _ => n - (intOf i).toNat)
  case atStart => exact ⟨0, 0, Nat.zero_le _, rfl, rfl⟩
  case round =>
    obtain ⟨k, q, hk, rfl, rfl⟩ := hrel
    by_cases hlt : k < n
    · obtain ⟨g, rfl⟩ := F1.out (by omega)
      obtain ⟨g', rfl⟩ := F2.out (by omega)
      obtain ⟨x, hx⟩ : ∃ x, l.getD k 0 = x := ⟨_, rfl⟩
      have c1 : ∀ q, (w.drewN q).cell? ⟨g, k, none⟩ = some (.int .i64 (x : Int)) := fun q => by
        have := V1.out.at (i := k) (by rw [HN.out]; exact hlt)
        rw [hx] at this
        simpa using this
      have c2 : ∀ q, (w.drewN q).cell? ⟨g', k, none⟩ = some (.int .i64 (x : Int)) := fun q => by
        have := V2.out.at (i := k) (by rw [HN.out]; exact hlt)
        rw [hx] at this
        simpa using this
      have ht : ((x : Int) != (x : Int)) = false := by simp
      clear hx
      go_wp2
      go_quiet (fail)
      go_wp2
      go_roundw
      case rel => exact ⟨k + 1, _, by omega, by go_num, rfl⟩
      case measure => simp [intOf]; omega
    · go_wp2
      go_ret
      exact ⟨rfl, below_drewN (Below.refl _ _) q⟩
set_option maxHeartbeats 800000 in
set_option maxRecDepth 100000 in
theorem below100003_any (w : World) (x : Int) : Calls Try.prog 6 #[.int .i64 x] w fun e w' => (∃ c : Nat, c ≤ 100002 ∧ e = .returned (.int .i64 (c : Int))) ∧ w' = w := by
  obtain ⟨y, hy⟩ : ∃ y, x.tmod 100003 = y := ⟨_, rfl⟩
  have h1 : -100003 < y ∧ y < 100003 := by
    rw [← hy]
    have ha := Int.tmod_lt_of_pos x (show (0 : Int) < 100003 by decide)
    have hb := Int.lt_tmod_of_pos x (show (0 : Int) < 100003 by decide)
    exact ⟨by omega, ha⟩
  have hwy : IntKind.i64.wrap y = y := by rw [wrap_is] <;> omega
  by_cases hneg : y < 0
  · have hwn : IntKind.i64.wrap (-y) = -y := by rw [wrap_is] <;> omega
    go_enter Try.func6, Try.ntmps6
    go_wp2
    go_ret
    exact ⟨⟨(-y).toNat, by omega, by rw [show ((-y).toNat : Int) = -y by omega]; rfl⟩, rfl⟩
  · go_enter Try.func6, Try.ntmps6
    go_wp2
    go_ret
    exact ⟨⟨y.toNat, by omega, by rw [show (y.toNat : Int) = y by omega]; rfl⟩, rfl⟩
end Go.Proofs.Ytplldfnldaehiaa
