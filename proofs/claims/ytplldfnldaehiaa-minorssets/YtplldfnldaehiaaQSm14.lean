/-
  Sm14: lists of choices gathered by append; the reference's Some.
-/
import Derived.Test.YtplldfnldaehiaaQNs14
import Derived.Test.YtplldfnldaehiaaQRn14ToIt14
import Derived.Test.YtplldfnldaehiaaQTy9ToChkN9
namespace Go.Proofs.Ytplldfnldaehiaa
open Go.RowKit
set_option linter.unusedVariables false

/-- Lists of numbers, gathered by append, each in a row of its own. -/
def LLs (B E : Nat) (w : World) (v : Value) (ls : List (List Nat)) : Prop :=
  ∃ vs : List Value, w.ownsRow B 29 1 v ls.length vs ∧ vs.length = ls.length ∧ ∀ (j : Nat) (u : Value) (l : List Nat), vs[j]? = some u → ls[j]? = some l → Ivs E w u l
theorem LLs.nil (B E : Nat) (w : World) : LLs B E w (.slice none 0 0) [] := ⟨[], World.ownsRow_nil _ _ _ _, rfl, fun j u l h => by simp at h⟩
theorem LLs.now {B E : Nat} {w w' : World} {v : Value} {ls : List (List Nat)} (h : LLs B E w v ls) (hb : Below w.heap.size w w') : LLs B E w' v ls := by
  obtain ⟨vs, h1, h2, h3⟩ := h
  exact ⟨vs, owns_keep h1 fun b _ hlt => hb.block b hlt, h2, fun j u l hu hl => (h3 j u l hu hl).now hb⟩
theorem LLs.form {B E : Nat} {w : World} {v : Value} {ls : List (List Nat)} (h : LLs B E w v ls) : ∃ a cap, v = .slice a ls.length cap ∧ ls.length ≤ cap ∧ (0 < ls.length → ∃ g, a = some ⟨g, 0, none⟩) := by
  obtain ⟨vs, ⟨q1, ⟨q2, q3⟩ | ⟨g, cap, cur, q2, q3, q4, q5, q6⟩⟩, -, -⟩ := h
  · exact ⟨none, 0, by rw [q2, q3], by omega, fun q => by omega⟩
  · exact ⟨_, cap, q2, by omega, fun _ => ⟨g, rfl⟩⟩
theorem LLs.blk {B E b : Nat} {w : World} {v : Value} {ls : List (List Nat)} (h : LLs B E w v ls) (hb : v.ownBlock = some b) : B ≤ b ∧ ∃ L, w.heap[b]? = some (.cells L 29 (0, 0)) := by
  obtain ⟨vs, ⟨_, ⟨r2, _⟩ | ⟨g2, cap, cur, r2, r3, r4, r5⟩⟩, -, -⟩ := h
  · rw [r2] at hb; cases hb
  · rw [r2] at hb
    simp only [Value.ownBlock, Option.some.injEq] at hb
    subst hb
    exact ⟨r3, cur, r4⟩
theorem LLs.mono {B B' E E' : Nat} {w : World} {v : Value} {ls : List (List Nat)} (h : LLs B E w v ls) (hb : B' ≤ B) (he : E' ≤ E) : LLs B' E' w v ls := by
  obtain ⟨vs, h1, h2, h3⟩ := h
  exact ⟨vs, owns_mono11 h1 hb, h2, fun j u l hu hl => owns_le14 (h3 j u l hu hl) he⟩
/-- One of them. -/
theorem LLs.at {B E g n cap : Nat} {w : World} {ls : List (List Nat)} (h : LLs B E w (.slice (some ⟨g, 0, none⟩) n cap) ls) {i : Nat} {l : List Nat} (hi : ls[i]? = some l) : ∃ u, w.cell? ⟨g, i, none⟩ = some u ∧ Ivs E w u l := by
  obtain ⟨vs, h1, h2, h3⟩ := h
  have hlt : i < ls.length := (List.getElem?_eq_some_iff.1 hi).1
  have hv : i < vs.length := by omega
  have h0 := h1
  obtain ⟨q1, ⟨q2, q3⟩ | ⟨g', cap', cur, q2, q3, q4, q5, q6⟩⟩ := h1
  · cases q2
  · simp only [Value.slice.injEq, Option.some.injEq, Addr.mk.injEq, and_true] at q2
    obtain ⟨rfl, rfl, rfl⟩ := q2
    have hu : vs[i]? = some vs[i] := List.getElem?_eq_getElem hv
    refine ⟨vs[i], ?_, h3 i _ l hu hi⟩
    rw [h0.cellAt i (by omega)]
    exact hu
theorem LLs.ty {B E : Nat} {w w' : World} {T : TypeId} {v : Value} {ls : List (List Nat)} (h : LLs B E w v ls) (ht : Ty T w w') (h1 : 29 ≠ T) (h2 : 3 ≠ T) : LLs B E w' v ls := by
  have h0 := h
  obtain ⟨vs, k1, k2, k3⟩ := h
  refine ⟨vs, owns_keep k1 fun b hb hlt => ?_, k2, fun j u l hu hl => (k3 j u l hu hl).keep fun b L _ e => ht.2 b _ _ _ e h2⟩
  obtain ⟨_, L, e⟩ := h0.blk hb
  rw [e]; exact ht.2 b _ _ _ e h1
/-- None of them is left. -/
theorem LLs.cut {B E E' g n cap : Nat} {w : World} {ls : List (List Nat)} (h : LLs B E w (.slice (some ⟨g, 0, none⟩) n cap) ls) : LLs B E' w (.slice (some ⟨g, 0, none⟩) 0 cap) [] := by
  obtain ⟨vs, ⟨q1, ⟨q2, q3⟩ | ⟨g', cap', cur, q2, q3, q4, q5, q6, q7, q8⟩⟩, -, -⟩ := h
  · cases q2
  · simp only [Value.slice.injEq, Option.some.injEq, Addr.mk.injEq, and_true] at q2
    obtain ⟨rfl, rfl, rfl⟩ := q2
    exact ⟨[], ⟨rfl, .inr ⟨_, _, cur, rfl, q3, q4, Nat.zero_le _, q6, q7, by simp⟩⟩, rfl, fun j u l h => by simp at h⟩
theorem Try.infoLI14 : (Try.prog.info? 29).map (fun i => (i.zero, i.size, i.bytes)) = some (some (.slice none 0 0), 1, 24) := by kernel_rfl
/-- One list more behind them. -/
theorem wpList_append_lls (w : World) {ops : Array Oper} {rest : List Oper} {o : Oper} {a : Act} {Q : Exit → Act → World → Prop}
    (hgd : o.guard = none) (s x : Operand) (hop : o.op = .call { callee := .builtin .append, args := #[s, x], argTypes := #[27, 27] })
    (B E : Nat) (v : Value) (ls : List (List Nat)) (u : Value) (l : List Nat) (hs : a.eval s = v) (hP : LLs B E w v ls) (hu : Ivs E w u l) (gx : Nat) (hx : a.eval x = .slice (some ⟨gx, 0, none⟩) 1 1) (hc : w.cell? ⟨gx, 0, none⟩ = some u) (hlen : ls.length ≤ 1000000) (hBs : B ≤ w.heap.size)
    (hK : ∀ g' cap' w', Hid (LLs B E w' (.slice (some ⟨g', 0, none⟩) (ls.length + 1) cap') (ls ++ [l])) → Hid (w.grownBy w' v.ownBlock) → Hid (v.ownBlock = some g' ∨ g' = w.heap.size) → wpList Try.prog ops Q rest (a.put o.dst (.slice (some ⟨g', 0, none⟩) (ls.length + 1) cap')) w') :
    wpList Try.prog ops Q (o :: rest) a w := by
  obtain ⟨i, hi, hz, hsz, hby⟩ := info_parts Try.infoLI14
  have hPP := hP
  obtain ⟨vs, p1, p2, p3⟩ := hP
  obtain ⟨ua, uc, hue, -, -⟩ := hu.form
  refine wpList_append_lies w hgd s x 27 hop B 29 i (.slice none 0 0) 1 24 Try.underlying27 hi hz hsz hby rfl (by omega) v ls.length _ hs p1 ⟨gx, 0, none⟩ 1 1 [u] hx rfl ?_ ?_ (by omega) (by unfold maxLen; omega) (by omega) hBs w.heap.size rfl ?_
  · intro j u' hj
    match j, hj with
    | 0, hj => simp at hj; subst hj; rw [head_add13]; exact hc
  · intro u' hu'
    simp at hu'
    subst hu'
    rw [hue]
    rfl
  · intro g' cap' w' k1 k2 k3 k4
    have tg : Ty 29 w w' := ⟨k2.size, fun b L T fr e hne => (k2.block b (Array.getElem?_eq_some_iff.1 e).1 (fun q => by
      obtain ⟨_, L', e'⟩ := hPP.blk q.symm
      rw [e', Option.some.injEq, Obj.cells.injEq] at e
      exact hne e.2.1.symm)).trans e⟩
    refine hK _ _ w' ⟨vs ++ [u], ?_, by simp [p2], fun j u' l' hu' hl' => ?_⟩ k2 k3
    · rw [List.length_append, List.length_cons, List.length_nil]
      exact k1
    · by_cases q : j < ls.length
      · rw [List.getElem?_append_left (by omega)] at hu'
        rw [List.getElem?_append_left q] at hl'
        exact (p3 j u' l' hu' hl').keep fun b L _ e => tg.2 b _ _ _ e (by decide)
      · have hj : j = ls.length := by
          have := (List.getElem?_eq_some_iff.1 hl').1
          simp at this
          omega
        subst hj
        rw [List.getElem?_append_right (by omega), ← p2, Nat.sub_self] at hu'
        rw [List.getElem?_append_right (by omega), Nat.sub_self] at hl'
        simp at hu' hl'
        subst hu' hl'
        exact hu.keep fun b L _ e => tg.2 b _ _ _ e (by decide)
theorem below_lls {B E : Nat} {w0 w w' : World} {v : Value} {ls : List (List Nat)} (h : Below B w0 w) (hB : B ≤ w.heap.size) (ho : LLs B E w v ls) (hg : w.grownBy w' v.ownBlock) : Below B w0 w' :=
  h.trans ⟨hg.os, hg.tape, hg.output, hg.size, fun k hk => hg.block k (by omega) (fun e => by have := (ho.blk e.symm).1; omega)⟩
def SfH (w : World) (k gk : Nat) (s9 : Value) (wx : World) : Prop := ∃ i : Nat, s9 = .int .i64 (i : Int) ∧ i ≤ k ∧ gk = k - i ∧ Cel wx w.heap.size 3 (wf k fun t => if t < i then (t : Int) else 0) ∧ Below w.heap.size w wx
def SmH (w : World) (n k m gk : Nat) (s7 s8 : Value) (wx : World) : Prop := ∃ t : Nat, t < (sts14 n k).length ∧ t ≤ m ∧ gk = m - t ∧ LLs w.heap.size w.heap.size wx s7 ((sts14 n k).take t) ∧ Ivs w.heap.size wx s8 ((sts14 n k).getD t []) ∧ Below w.heap.size w wx
theorem take_app14 {ls : List (List Nat)} {t : Nat} (ht : t < ls.length) : ls.take t ++ [ls.getD t []] = ls.take (t + 1) := by
  rw [List.take_add_one, List.getD_eq_getElem?_getD, List.getElem?_eq_getElem ht]
  rfl
set_option maxHeartbeats 3200000 in
set_option maxRecDepth 100000 in
theorem some_any {w : World} {n k m : Nat} (hn : n ≤ 64) (hk : k ≤ n) (hm : 1 ≤ m) (hm2 : m ≤ 1000000) :
    Calls Try.prog 8 #[.int .i64 (n : Int), .int .i64 (k : Int), .int .i64 (m : Int)] w fun e w' => ∃ v, e = .returned v ∧ LLs w.heap.size w.heap.size w' v ((sts14 n k).take m) ∧ Below w.heap.size w w' := by
  have q0 : decide ((n : Int) < 0) = false := decide_eq_false (by omega)
  have q1 : decide ((64 : Int) < (n : Int)) = false := decide_eq_false (by omega)
  have q2 : decide ((k : Int) < 0) = false := decide_eq_false (by omega)
  have q3 : decide ((n : Int) < (k : Int)) = false := decide_eq_false (by omega)
  have q4 : decide ((m : Int) < 1) = false := decide_eq_false (by omega)
  go_enter Try.func8, Try.ntmps8
  go_wp2_with (at_make; refine wpList_make_nf _ rfl _ _ rfl _ _ k k rfl rfl rfl rfl (Nat.le_refl _) (by omega) ?_)
  clear q0 q1 q2 q3 q4
  intro w1 hrow hb1 hsz1
  have H0 : Hid (SfH w k k (.int .i64 0) w1) := ⟨0, rfl, Nat.zero_le _, rfl, by rw [wf_congr (G := fun _ => 0) fun t _ => if_neg (Nat.not_lt_zero _)]; exact hrow.out, hb1.out⟩
  clear hrow hb1 hsz1
  go_wp2_with fail
  go_loopg [9] k (fun gk s9 wx => SfH w k gk s9 wx)
  case atStart => exact H0.out
  case round =>
    clear H0
    obtain ⟨i, rfl, hik, hg, hc, hb⟩ := hrel
    have C := hid hc
    have G := hid hb
    have HG := hid hg
    clear hc hb hg
    by_cases hlt : i < k
    · have hlt' : (i : Int) < (k : Int) := by omega
      have hw := wrapI9 (i := i) (by omega)
      have e0 := C.out.nf hlt
      have e1 := C.out.fz i
      have HN1 : Hid (SfH w k (k - (i + 1)) (.int .i64 ((i + 1 : Nat) : Int)) (wr.setCell ⟨w.heap.size, i, none⟩ (.int .i64 (i : Int)))) :=
        ⟨i + 1, rfl, by omega, rfl, by
          have := C.out.nfset hlt (i : Int)
          rw [wf_congr (G := fun t => if t < i + 1 then (t : Int) else 0) fun t ht => ?_] at this
          · exact this
          · show (if t = i then (i : Int) else if t < i then (t : Int) else 0) = if t < i + 1 then (t : Int) else 0
            by_cases q : t = i
            · rw [if_pos q, if_pos (by omega), q]
            · rw [if_neg q]
              by_cases q2 : t < i
              · rw [if_pos q2, if_pos (by omega)]
              · rw [if_neg q2, if_neg (by omega)], bset G.out (Nat.le_refl _)⟩
      have HMM : Hid (k - (i + 1) < gk) := by unfold Hid; rw [HG.out]; omega
      clear C G HG
      go_wp2_with fail
      go_roundg (k - (i + 1))
      case rel => exact HN1.out
      case measure => exact HMM.out
    · have hlt' : ¬ (i : Int) < (k : Int) := by omega
      obtain rfl : i = k := by omega
      obtain ⟨hf1, hf2⟩ := sts_first hk
      have CF : Hid (SmH w n i m m (.slice none 0 0) (.slice (some ⟨w.heap.size, 0, none⟩) i i) wr) := by
        refine ⟨0, hf2, Nat.zero_le _, rfl, LLs.nil _ _ _, ?_, G.out⟩
        rw [hf1]
        refine Ivs.of14 (r := []) ?_ (by simp) (by simp) (by unfold maxLen; omega) (Nat.le_refl _)
        rw [List.append_nil, wf_congr (G := fun t => if t < i then (t : Int) else 0) fun t ht => by rw [if_pos ht]; simp [nf, ht]]
        exact C.out
      clear C HG G hf1 hf2
      go_wp2_with fail
      go_loopg [7, 8] m (fun gk s7 s8 wx => SmH w n i m gk s7 s8 wx)
      case atStart => exact CF.out
      case round =>
        clear CF
        obtain ⟨t, htN, htm, hg, hL, hI, hb⟩ := hrel
        have LL := hid hL
        have II := hid hI
        have BB := hid hb
        have HG := hid hg
        obtain ⟨sm1, sm2, sm3⟩ := sts_mem htN
        have HTN := hid htN
        have SM := hid (⟨sm1, sm2, sm3⟩ : ((sts14 n i).getD t []).length = i ∧ ((sts14 n i).getD t []).Pairwise (· < ·) ∧ ∀ x ∈ (sts14 n i).getD t [], x < n)
        have HNX := hid (sts_run hk htN)
        obtain ⟨al, cl, rfl, -, -⟩ := hL.form
        obtain ⟨aS, cs, rfl, -, -⟩ := hI.form
        have etl : ((sts14 n i).take t).length = t := by rw [List.length_take]; omega
        rw [etl] at LL ⊢
        rw [sm1] at II ⊢
        have ETL := hid etl
        have TAP := hid (take_app14 htN)
        obtain ⟨ll, hll⟩ : ∃ ll, (sts14 n i).getD t [] = ll := ⟨_, rfl⟩
        rw [hll] at II SM HNX TAP
        obtain ⟨tk, htk⟩ : ∃ tk, (sts14 n i).take t = tk := ⟨_, rfl⟩
        rw [htk] at LL ETL TAP
        clear hL hI hb hg htN sm1 sm2 sm3 etl hll htk
        by_cases hlt2 : t < m
        · have hlt2' : (t : Int) < (m : Int) := by omega
          obtain ⟨V, hV⟩ : ∃ V, wr.alloc (.cells #[.slice aS i cs] 29) = V := ⟨_, rfl⟩
          obtain ⟨bv, szv⟩ := alo1 wr (.cells #[.slice aS i cs] 29)
          rw [hV] at bv szv
          have CV : Hid (V.cell? ⟨wr.heap.size, 0, none⟩ = some (.slice aS i cs)) := by unfold Hid; rw [← hV]; exact (Cel.new wr 29 [.slice aS i cs]).at (i := 0) rfl
          have LV := hid (LL.out.now bv)
          have IV := hid (II.out.now bv)
          have BV := hid (below_step BB.out bv)
          have EV := hid hV
          have HL : Hid (tk.length ≤ 1000000) := by unfold Hid; rw [ETL.out]; omega
          clear bv szv hV LL II BB
          go_wp2_with (at_builtin; rw [EV.out]; refine wpList_append_lls V rfl (.tmp 45) (.tmp 47) rfl w.heap.size w.heap.size _ _ _ _ rfl LV.out IV.out wr.heap.size rfl CV.out HL.out BV.out.size ?_)
          intro g' cap' w3 hL3 hg3 hb3
          rw [ETL.out] at hL3 ⊢
          have B3 := hid (below_lls BV.out BV.out.size LV.out hg3.out)
          have I3 : Hid (Ivs w.heap.size w3 (.slice aS i cs) ll) := IV.out.keep fun b L hb e => (hg3.out.block b (Array.getElem?_eq_some_iff.1 e).1 (fun q => by
            obtain ⟨_, L', e'⟩ := LV.out.blk q.symm
            rw [e', Option.some.injEq, Obj.cells.injEq] at e
            exact absurd e.2.1 (by decide))).trans e
          have L3 := hid hL3.out
          rw [TAP.out] at L3
          clear hL3 hg3 hb3 LV IV BV EV CV HL TAP
          by_cases hk0 : i = 0
          · have hk0' : (i : Int) = 0 := by omega
            have hbk : ((i : Int) == 0) = true := by simp [hk0']
            have FIN : Hid (∃ v, Ending.returned (.slice (some ⟨g', 0, none⟩) (t + 1) cap') = .returned v ∧ LLs w.heap.size w.heap.size w3 v ((sts14 n i).take m) ∧ Below w.heap.size w w3) := by
              refine ⟨_, rfl, ?_, B3.out⟩
              have hN : (sts14 n i).length = 1 := by
                rw [hk0]; simp only [sts14]; rw [lx_len]; cases n <;> rfl
              have ht0 : t = 0 := by have := HTN.out; omega
              have e1 : (sts14 n i).take m = (sts14 n i).take (t + 1) := by
                rw [List.take_of_length_le (by omega), List.take_of_length_le (by omega)]
              rw [e1]
              exact L3.out
            clear L3 B3 I3 HG HNX SM HTN
            go_wp2
            go_ret
            exact FIN.out
          · have hk0' : ¬ (i : Int) = 0 := by omega
            have hbk : ((i : Int) == 0) = false := by simp; exact hk0
            have HCN := hid (next_any (n := n) I3.out SM.out.1 (by omega) hn (fun t ht => by
              have := up_le14 SM.out.2.1 SM.out.2.2 t (by rw [SM.out.1]; exact ht)
              rw [SM.out.1] at this
              exact this))
            go_wp2_with fail
            refine HCN.out.mono ?_
            rintro e w4 (⟨hnx, rfl, hw4⟩ | ⟨l', gn, cn, hnx, hl', hk1, rfl, hI4, hb4⟩)
            · rw [hw4]
              have FIN : Hid (∃ v, Ending.returned (.slice (some ⟨g', 0, none⟩) (t + 1) cap') = .returned v ∧ LLs w.heap.size w.heap.size w3 v ((sts14 n i).take m) ∧ Below w.heap.size w w3) := by
                refine ⟨_, rfl, ?_, B3.out⟩
                have hN : ¬ t + 1 < (sts14 n i).length := fun q => by
                  have := HNX.out
                  rw [if_pos q, hnx] at this
                  cases this
                have e1 : (sts14 n i).take m = (sts14 n i).take (t + 1) := by
                  rw [List.take_of_length_le (by omega), List.take_of_length_le (by omega)]
                rw [e1]
                exact L3.out
              have hnil : ∀ W, (binOp .eql 29 (.slice none 0 0) (.slice none 0 0)).run Try.prog W = .ok (.bool true) W := fun W => Lib.run_eql_slice_nil_nil W 0 0 Try.underlying29
              clear L3 B3 I3 HG HNX SM HTN HCN hw4 hnx
              go_wp2
              go_ret
              exact FIN.out
            · have hmore : t + 1 < (sts14 n i).length ∧ l' = (sts14 n i).getD (t + 1) [] := by
                have h1 := HNX.out
                rw [hnx] at h1
                by_cases q : t + 1 < (sts14 n i).length
                · rw [if_pos q, Option.some.injEq] at h1; exact ⟨q, h1⟩
                · rw [if_neg q] at h1; cases h1
              have HN1 : Hid (SmH w n i m (m - (t + 1)) (.slice (some ⟨g', 0, none⟩) (t + 1) cap') (.slice (some ⟨gn, 0, none⟩) i cn) w4) := ⟨t + 1, hmore.1, by omega, rfl, L3.out.now hb4, by rw [← hmore.2]; exact owns_le14 hI4 B3.out.size, below_step B3.out hb4⟩
              have HMM : Hid (m - (t + 1) < gk) := by unfold Hid; rw [HG.out]; omega
              have hnil : ∀ W, (binOp .eql 29 (.slice (some ⟨gn, 0, none⟩) i cn) (.slice none 0 0)).run Try.prog W = .ok (.bool false) W := fun W => Lib.run_eql_slice_some_nil W _ _ _ Try.underlying29
              clear L3 B3 I3 HG HNX SM HTN HCN hI4 hb4 hmore hnx
              go_wp2_with fail
              go_roundg (m - (t + 1))
              case rel => exact HN1.out
              case measure => exact HMM.out
        · have hlt2' : ¬ (t : Int) < (m : Int) := by omega
          obtain rfl : t = m := by omega
          have FIN : Hid (∃ v, Ending.returned (.slice al t cl) = .returned v ∧ LLs w.heap.size w.heap.size wr v ((sts14 n i).take t) ∧ Below w.heap.size w wr) := ⟨_, rfl, by
            have e1 : (sts14 n i).take t = tk := by
              have h1 := TAP.out
              have h2 : ((sts14 n i).take (t + 1)).take t = (sts14 n i).take t := by rw [List.take_take]; congr 1; omega
              rw [← h2, ← h1, List.take_append_of_le_length (by rw [ETL.out]; exact Nat.le_refl _), List.take_of_length_le (by rw [ETL.out]; exact Nat.le_refl _)]
            rw [e1]
            exact LL.out, BB.out⟩
          clear LL II BB HG HNX SM HTN TAP
          go_wp2
          go_ret
          exact FIN.out
set_option maxRecDepth 100000 in
theorem some_none {w : World} {n k m : Int} (h : n < 0 ∨ 64 < n ∨ k < 0 ∨ n < k) (hm : 1 ≤ m) :
    Calls Try.prog 8 #[.int .i64 n, .int .i64 k, .int .i64 m] w fun e w' => e = .returned (.slice none 0 0) ∧ w' = w := by
  by_cases c0 : n < 0
  · have q0 : decide (n < (0 : Int)) = true := decide_eq_true c0
    clear h
    go_enter Try.func8, Try.ntmps8
    go_wp2
    go_ret
    exact ⟨rfl, rfl⟩
  · have q0 : decide (n < (0 : Int)) = false := decide_eq_false c0
    by_cases c1 : 64 < n
    · have q1 : decide ((64 : Int) < n) = true := decide_eq_true c1
      clear h
      go_enter Try.func8, Try.ntmps8
      go_wp2
      go_ret
      exact ⟨rfl, rfl⟩
    · have q1 : decide ((64 : Int) < n) = false := decide_eq_false c1
      by_cases c2 : k < 0
      · have q2 : decide (k < (0 : Int)) = true := decide_eq_true c2
        clear h
        go_enter Try.func8, Try.ntmps8
        go_wp2
        go_ret
        exact ⟨rfl, rfl⟩
      · have q2 : decide (k < (0 : Int)) = false := decide_eq_false c2
        have c3 : n < k := by omega
        have q3 : decide (n < k) = true := decide_eq_true c3
        clear h
        go_enter Try.func8, Try.ntmps8
        go_wp2
        go_ret
        exact ⟨rfl, rfl⟩
end Go.Proofs.Ytplldfnldaehiaa
