/-
  KronG9: Concat once more, with what it owns; rows of integers gathered by append.
-/
import Derived.Test.YtojhmkkjjalonaaQScaled9
namespace Go.Proofs.Ytojhmkkjjalonaa
open Go.RowKit
set_option linter.unusedVariables false

theorem addr9 (g j : Nat) : (⟨g, 0, none⟩ : Addr).add j = ⟨g, j, none⟩ := by unfold Addr.add; split <;> simp_all
def CattedO (w : World) (ps : List (Value × Value)) (e : Ending) (w' : World) : Prop := ∃ v, e = .returned v ∧ OwnP w.heap.size w' v ps ∧ ps.length ≤ 1048576 ∧ Below w.heap.size w w'
set_option maxHeartbeats 1600000 in
set_option maxRecDepth 100000 in
theorem concat_own {w : World} {B m : Nat} {v : Value} {pss : List (List (Value × Value))} (hv : Prr B w v pss) (hm : Same9 m pss) (hl : pss.length * m ≤ 1048576) (hm1 : m ≤ 1048576) :
    Calls Try.prog 48 #[v] w (CattedO w pss.flatten) := by
  have V0 := hid hv
  have HM := hid hm
  obtain ⟨a0, c0, rfl, hc0, hn0, hf0⟩ := hv.form
  have HT := hid (fun i (hi : i ≤ pss.length) => take_flat (fun ps hp => (hm ps hp).1) i hi)
  have HFL : Hid (pss.flatten = (pss.take pss.length).flatten) := by unfold Hid; rw [List.take_length]
  obtain ⟨FT, hFT⟩ : ∃ FT, pss.flatten = FT := ⟨_, rfl⟩
  rw [hFT] at HFL ⊢
  obtain ⟨n, hn⟩ : ∃ n, pss.length = n := ⟨_, rfl⟩
  rw [hn] at V0 hc0 hn0 hl HFL HT ⊢
  have HN := hid hn
  have F0 := hid hf0
  clear hv hm hf0 hn hFT
  have H0 : Hid (CatA w n m n (.int .i64 0) (.int .i64 0) w) := ⟨0, by simp, rfl, Nat.zero_le _, by omega, rfl⟩
  go_enter Try.func48, Try.ntmps48
  go_wp2_with fail
  go_loopg [3, 11] n (fun gk s3 s11 wx => CatA w n m gk s3 s11 wx)
  case atStart => exact H0.out
  case round =>
    clear H0
    obtain ⟨i, rfl, rfl, hin, hg, hwx⟩ := hrel
    have hwx' := hwx.symm
    subst hwx'
    clear hwx
    have HG := hid hg
    clear hg
    have him : i * m ≤ n * m := Nat.mul_le_mul_right m hin
    by_cases hlt : i < n
    · have hlt' : (i : Int) < (n : Int) := by omega
      obtain ⟨b1, o1, rfl⟩ := F0.out (fun e => by have := HN.out; rw [e] at this; simp at this; omega)
      obtain ⟨u, k0, pu⟩ := V0.out.at (i := i) (List.getElem?_eq_getElem (by rw [HN.out]; exact hlt))
      obtain ⟨au, cu, hu, -, -, -, -⟩ := pu.form
      rw [(HM.out _ (List.getElem_mem (l := pss) (n := i) (by rw [HN.out]; exact hlt))).1] at hu
      subst hu
      have hw := wrapI9 (i := i) (by omega)
      have e2 : (i + 1) * m = i * m + m := by rw [Nat.add_mul, Nat.one_mul]
      have e3 : (i + 1) * m ≤ n * m := Nat.mul_le_mul_right m hlt
      have HN1 : Hid (∀ lo : Nat, lo = i * m → CatA w n m (n - (i + 1)) (.int .i64 ((lo : Int) + (m : Int))) (.int .i64 ((i + 1 : Nat) : Int)) w) := fun lo hlo => ⟨i + 1, by rw [e2, hlo]; congr 1, rfl, by omega, rfl, rfl⟩
      have HMM : Hid (n - (i + 1) < gk) := by unfold Hid; rw [HG.out]; omega
      obtain ⟨lo, hlo⟩ : ∃ lo, i * m = lo := ⟨_, rfl⟩
      have HR := hid (HN1.out lo hlo.symm)
      have hs : IntKind.i64.wrap ((lo : Int) + (m : Int)) = (lo : Int) + (m : Int) := by rw [wrap_is] <;> omega
      have hs' : ¬ ((lo : Int) + (m : Int) < 0) := by omega
      rw [hlo]
      clear HN1 pu HG e2 e3 hlo him
      go_wp2_with fail
      go_roundg (n - (i + 1))
      case rel => exact HR.out
      case measure => exact HMM.out
    · have hlt' : ¬ (i : Int) < (n : Int) := by omega
      obtain rfl : i = n := by omega
      have HS := hid (grow_any (w := w) (N := i * m) hl)
      have HNN := hid hl
      clear him hl
      obtain ⟨N, hNN⟩ : ∃ N, i * m = N := ⟨_, rfl⟩
      rw [hNN] at HS ⊢
      clear HG hNN
      go_wp2_with fail
      refine HS.out.mono ?_
      rintro e w1 ⟨v, rfl, ho, b⟩
      have H1 : Hid (CatB w i pss i v (.int .i64 0) w1) := ⟨0, rfl, Nat.zero_le _, by omega, by simpa [OwnP, flat] using ho, b⟩
      clear HS ho b
      go_wp2_with fail
      go_loopg [6, 27] i (fun gk s6 s27 wx => CatB w i pss gk s6 s27 wx)
      case atStart => exact H1.out
      case round =>
        clear H1
        obtain ⟨j, rfl, hjn, hg, ho, hG⟩ := hrel
        have OW := hid ho
        have G := hid hG
        have HG := hid hg
        clear ho hG hg
        by_cases hlt2 : j < i
        · have hlt2' : (j : Int) < (i : Int) := by omega
          obtain ⟨b1, o1, rfl⟩ := F0.out (fun e => by have := HN.out; rw [e] at this; simp at this; omega)
          obtain ⟨u, k0, pu⟩ := (V0.out.now G.out).at (i := j) (List.getElem?_eq_getElem (by rw [HN.out]; exact hlt2))
          have hpj : pss[j]? = some (pss[j]'(by rw [HN.out]; exact hlt2)) := List.getElem?_eq_getElem (by rw [HN.out]; exact hlt2)
          have HM1 := hid (HM.out _ (List.getElem_mem (l := pss) (n := j) (by rw [HN.out]; exact hlt2)))
          have HTS := hid (take_flat_succ hpj)
          obtain ⟨ps, hps⟩ : ∃ ps, pss[j]'(by rw [HN.out]; exact hlt2) = ps := ⟨_, rfl⟩
          rw [hps] at pu HM1 HTS
          have HLN : Hid ((pss.take j).flatten.length + ps.length ≤ 1048576) := by
            unfold Hid
            have := HT.out (j + 1) (by omega)
            rw [HTS.out, List.length_append] at this
            have h2 : (j + 1) * m ≤ i * m := Nat.mul_le_mul_right m hlt2
            have h3 := HNN.out
            omega
          have PU := hid pu
          obtain ⟨au, cu, rfl, -, -, -, -⟩ := pu.form
          have hw := wrapI9 (i := j) (by omega)
          clear hpj hps pu
          go_wp2_with (at_builtin; refine wpList_append_pairs _ rfl (.tmp 31) (.tmp 32) rfl w.heap.size _ _ (pss.take j).flatten ps rfl OW.out rfl B PU.out HM1.out.2 HLN.out G.out.size ?_)
          intro v2 w2 ho2 hg2
          have HN1 : Hid (CatB w i pss (i - (j + 1)) v2 (.int .i64 ((j + 1 : Nat) : Int)) w2) := ⟨j + 1, rfl, by omega, rfl, by rw [HTS.out]; exact ho2, grown_below (B := 0) G.out OW.out hg2.out⟩
          have HMM : Hid (i - (j + 1) < gk) := by unfold Hid; rw [HG.out]; omega
          clear OW G HG ho2 hg2 HTS HLN PU HM1 k0
          go_wp2_with fail
          go_roundg (i - (j + 1))
          case rel => exact HN1.out
          case measure => exact HMM.out
        · have hlt2' : ¬ (j : Int) < (i : Int) := by omega
          obtain rfl : j = i := by omega
          rw [← HFL.out] at OW
          have FIN2 : Hid (∀ v6, OwnP w.heap.size wr v6 FT → CattedO w FT (.returned v6) wr) := fun v6 h => ⟨v6, rfl, h, by have h1 := HT.out j (Nat.le_refl _); rw [← HFL.out] at h1; have := HNN.out; omega, G.out⟩
          replace FIN2 := hid (FIN2.out _ OW.out)
          clear OW G HG
          go_wp2
          go_ret
          exact FIN2.out
/-- Rows gathered: slices in a row of its own, each a list of integers of their own. -/
def GatR (B : Nat) (w : World) (v : Value) (zss : List (List Int)) (k : Nat) : Prop :=
  ∃ (vs : List Value) (pss : List (List (Value × Value))), w.ownsRow B 22 1 v vs.length vs ∧ vs.length = pss.length ∧ (∀ (j : Nat) (u : Value) (ps : List (Value × Value)), vs[j]? = some u → pss[j]? = some ps → PrsT w u ps) ∧ Zmss w pss zss k
theorem GatR.nil (B : Nat) (w : World) (k : Nat) : GatR B w (.slice none 0 0) [] k := ⟨[], [], World.ownsRow_nil _ _ _ _, rfl, fun j u ps h => by simp at h, rfl, fun j ps h => by simp at h⟩
theorem GatR.now {B k : Nat} {w w' : World} {v : Value} {zss : List (List Int)} (h : GatR B w v zss k) (hb : Below w.heap.size w w') : GatR B w' v zss k := by
  obtain ⟨vs, pss, h1, h2, h3, h4⟩ := h
  exact ⟨vs, pss, owns_keep h1 (fun b _ hlt => hb.block b hlt), h2, fun j u ps hu hp => (h3 j u ps hu hp).now hb, h4.now hb⟩
theorem GatR.form {B k : Nat} {w : World} {v : Value} {zss : List (List Int)} (h : GatR B w v zss k) : ∃ a c, v = .slice a zss.length c := by
  obtain ⟨vs, pss, ⟨q1, ⟨q2, q3⟩ | ⟨g, cap, cur, q2, q3, q4, q5, q6⟩⟩, h2, h3, h4⟩ := h
  · exact ⟨none, 0, by rw [q2, ← h4.1, ← h2, q3]⟩
  · exact ⟨_, cap, by rw [q2, ← h4.1, ← h2]⟩
theorem GatR.prr {B k : Nat} {w : World} {v : Value} {zss : List (List Int)} (h : GatR B w v zss k) (hl : zss.length ≤ 1048576) : ∃ pss, Prr 0 w v pss ∧ Zmss w pss zss k := by
  obtain ⟨vs, pss, h1, h2, h3, h4⟩ := h
  refine ⟨pss, ?_, h4⟩
  have h1' := h1
  obtain ⟨q1, ⟨q2, q3⟩ | ⟨g, cap, cur, q2, q3, q4, q5, q6⟩⟩ := h1
  · have e : pss = [] := List.eq_nil_of_length_eq_zero (by omega)
    subst e
    exact ⟨none, 0, by rw [q2]; rfl, Nat.le_refl _, by simp, .inl rfl⟩
  · refine ⟨_, cap, by rw [q2, h2], by omega, by rw [h4.1]; exact hl, .inr ⟨g, 0, rfl, (Array.getElem?_eq_some_iff.1 q4).1, fun j ps hp => ?_⟩⟩
    have hj : j < vs.length := by rw [h2]; exact (List.getElem?_eq_some_iff.1 hp).1
    have hv : vs[j]? = some vs[j] := List.getElem?_eq_getElem hj
    have c0 := World.ownsRow.cells h1' (g := g) (by rw [q2]; rfl) _ _ hv
    have ea : ∀ j, (⟨g, 0, none⟩ : Addr).add j = ⟨g, j, none⟩ := fun j => addr9 g j
    rw [ea] at c0
    exact ⟨_, by rw [Nat.zero_add]; exact c0, (h3 j _ ps hv hp).1⟩
theorem wpList_append_row9 (w : World) {ops : Array Oper} {rest : List Oper} {o : Oper} {a : Act} {Q : Exit → Act → World → Prop}
    (hgd : o.guard = none) (s x : Operand) (hop : o.op = .call { callee := .builtin .append, args := #[s, x], argTypes := #[53, 53] })
    (B k : Nat) (v : Value) (ua : Option Addr) (ul uc : Nat) (zss : List (List Int)) (ps : List (Value × Value)) (zs : List Int) (hs : a.eval s = v) (hB : GatR B w v zss k) (g : Nat) (hx : a.eval x = .slice (some ⟨g, 0, none⟩) 1 1) (hc0 : w.cell? ⟨g, 0, none⟩ = some (.slice ua ul uc)) (hu : PrsT w (.slice ua ul uc) ps) (hz : Zms w ps zs k) (hlen : zss.length ≤ 1048576) (hBs : B ≤ w.heap.size)
    (hK : ∀ g' l' cap' w', Hid (GatR B w' (.slice (some ⟨g', 0, none⟩) l' cap') (zss ++ [zs]) k) → Hid (w.grownBy w' v.ownBlock) → Hid (v.ownBlock = some g' ∨ g' = w.heap.size) → wpList Try.prog ops Q rest (a.put o.dst (.slice (some ⟨g', 0, none⟩) l' cap')) w') :
    wpList Try.prog ops Q (o :: rest) a w := by
  obtain ⟨i, hii, hzz, hsz, hby⟩ := info_parts Try.infoL9
  obtain ⟨vs, pss, h1, h2, h3, h4⟩ := hB
  have ea := addr9 g
  have hvl : vs.length ≤ 1048576 := by rw [h2, h4.1]; exact hlen
  refine wpList_append_lies w hgd s x 53 hop B 22 i (.slice none 0 0) 1 24 Try.underlying53 hii hzz hsz hby rfl (by omega) v vs.length vs hs h1 ⟨g, 0, none⟩ 1 1 [.slice ua ul uc] hx rfl ?_ ?_ (by omega) (by unfold maxLen; omega) (by omega) hBs w.heap.size rfl ?_
  · intro j u' hj
    match j, hj with
    | 0, hj => simp at hj; subst hj; rw [ea]; exact hc0
  · intro u' hu'
    simp at hu'
    subst hu'
    rfl
  · intro g' cap' w' k1 k2 k3 k4
    have ht := Ty.grown h1 k2
    refine hK g' _ cap' w' ⟨vs ++ [.slice ua ul uc], pss ++ [ps], by rw [List.length_append]; exact k1, by simp [h2], fun j u qs hu' hp => ?_, by simp [h4.1], fun j qs hp => ?_⟩ k2 k3
    · by_cases q : j < vs.length
      · rw [List.getElem?_append_left q] at hu'
        rw [List.getElem?_append_left (by omega)] at hp
        exact (h3 j u qs hu' hp).ty ht (by decide)
      · have hj : j = vs.length := by have := (List.getElem?_eq_some_iff.1 hu').1; simp at this; omega
        subst hj
        rw [List.getElem?_append_right (by omega), Nat.sub_self] at hu'
        rw [List.getElem?_append_right (by omega), h2, Nat.sub_self] at hp
        simp at hu' hp
        rw [← hu', ← hp]
        exact hu.ty ht (by decide)
    · by_cases q : j < pss.length
      · rw [List.getElem?_append_left q] at hp
        have e : (zss ++ [zs]).getD j [] = zss.getD j [] := by
          rw [List.getD_eq_getElem?_getD, List.getD_eq_getElem?_getD, List.getElem?_append_left (by rw [← h4.1]; exact q)]
        rw [e]
        exact (h4.2 j qs hp).ty ht (by decide)
      · have hj : j = pss.length := by have := (List.getElem?_eq_some_iff.1 hp).1; simp at this; omega
        subst hj
        rw [List.getElem?_append_right (by omega), Nat.sub_self] at hp
        have e : (zss ++ [zs]).getD pss.length [] = zs := by
          rw [List.getD_eq_getElem?_getD, List.getElem?_append_right (by rw [h4.1]; omega), h4.1, Nat.sub_self]; rfl
        simp at hp
        rw [e, ← hp]
        exact hz.ty ht (by decide)
end Go.Proofs.Ytojhmkkjjalonaa
