/-
  QAj16ToInts9: Aj16, Ints9, joined.
-/
import Derived.Test.YtnpcfohimlfbdaaQTl16
import Derived.Test.YtnpcfohimlfbdaaQProd9ToChkN9

/- Aj16 -/
namespace Go.Proofs.Ytnpcfohimlfbdaa
open Go.RowKit
set_option linter.unusedVariables false
set_option linter.unusedSimpArgs false

theorem slice_tail (b off d cp : Nat) (h : d + 1 ≤ cp) : ∃ o' c', (∀ w : World, (Instr.slice 22 (.slice (some ⟨b, off, none⟩) (d + 1) cp) (some (.int .i64 1)) none none).run Try.prog w = .ok (.slice (some ⟨b, o', none⟩) d c') w) ∧ (d ≠ 0 → o' = off + 2) ∧ d ≤ c' := by
  by_cases hc : cp = 1
  · subst hc
    obtain rfl : d = 0 := by omega
    refine ⟨off, 0, fun w => ?_, fun q => absurd rfl q, Nat.le_refl _⟩
    go_simp
  · refine ⟨off + 2 * 1, cp - 1, fun w => ?_, fun _ => by omega, by omega⟩
    have := slice_hi w b off (d + 1) cp 1 (by omega) (by omega)
    rw [show d + 1 - 1 = d by omega] at this
    exact this
theorem Zl.tail16 {w : World} {b off d cp o' c' k : Nat} {P : List Int} (h : Zl w (.slice (some ⟨b, off, none⟩) (d + 1) cp) P k) (ho : d ≠ 0 → o' = off + 2) (hc : d ≤ c') : Zl w (.slice (some ⟨b, o', none⟩) d c') (P.drop 1) k := by
  obtain ⟨a, c, h1, h2, h3, h4⟩ := h
  simp only [Value.slice.injEq] at h1
  obtain ⟨rfl, hl, rfl⟩ := h1
  have e : (P.drop 1).length = d := by simp; omega
  refine ⟨_, c', by rw [e], by omega, by omega, ?_⟩
  by_cases hd : d = 0
  · exact .inl (List.eq_nil_of_length_eq_zero (by omega))
  · rcases h4 with h4 | ⟨b', off', h5, h6, h7⟩
    · subst h4; simp at hl
    · simp only [Option.some.injEq, Addr.mk.injEq, and_true] at h5
      obtain ⟨rfl, rfl⟩ := h5
      refine .inr ⟨b, o', rfl, h6, fun j hj => ?_⟩
      obtain ⟨x, y, q1, q2, q3⟩ := h7 (j + 1) (by omega)
      have eo := ho hd
      subst eo
      refine ⟨x, y, ?_, ?_, ?_⟩
      · rw [← q1]; congr 2; omega
      · rw [← q2]; congr 2; omega
      · have : (P.drop 1)[j] = P[j + 1]'(by omega) := by simp [Nat.add_comm]
        rw [this]; exact q3
set_option maxHeartbeats 1600000 in
set_option maxRecDepth 100000 in
theorem adj_any {w : World} {ar : Option Addr} {b0 o0 : Nat} {av : Value} {n d cr cp kr kp ka : Nat} {A R P : List Int} (hR : Zl w (.slice ar n cr) R kr) (hP : Zl w (.slice (some ⟨b0, o0, none⟩) (d + 1) cp) P kp) (hA : Mx w av n n A ka) (hd : d ≤ 64) (hk : kp + kr + d * (ka + n + 1) + ka + n + 1 < 35184372088832) :
    Calls Try.prog 58 #[.slice ar n cr, av, .slice (some ⟨b0, o0, none⟩) (d + 1) cp] w (Tailed w n d A R (P.drop 1) (kp + kr + d * (ka + n + 1))) := by
  have M0 := hA
  obtain ⟨aa, ca, rfl, hn64, -⟩ := hA.form
  have hcp : d + 1 ≤ cp := by obtain ⟨_, _, e, h, _⟩ := hP.form9; simp only [Value.slice.injEq] at e; obtain ⟨-, h1, rfl⟩ := e; omega
  obtain ⟨o', c', hsl, ho, hc⟩ := slice_tail b0 o0 d cp hcp
  have HP := hid (hP.tail16 ho hc)
  obtain ⟨la, hla⟩ : ∃ la, n * n = la := ⟨_, rfl⟩
  rw [hla] at M0 ⊢
  obtain ⟨W0, hW⟩ : ∃ W0, w.alloc (matO n n (.slice aa la ca)) = W0 := ⟨_, rfl⟩
  obtain ⟨b1, sz0⟩ := alo1 w (matO n n (.slice aa la ca))
  rw [hW] at b1 sz0
  have pa : Cel W0 w.heap.size 39 (matc n n (.slice aa la ca)) := by rw [← hW]; exact Cel.new w _ _
  have HT : Hid (∀ w', Below W0.heap.size W0 w' → Calls Try.prog 73 #[.slice ar n cr, .slice (some ⟨b0, o', none⟩) d c', matv n n (.slice aa la ca)] w' (Tailed w' n d A R (P.drop 1) (kp + kr + d * (ka + n + 1)))) := fun w' h => tails_any ((hR.now b1).now h) ((HP.out.now b1).now h) ((M0.now b1).now h) hd hk
  have k0 := pa.at (i := 0) rfl
  have k1 := pa.at (i := 1) rfl
  have k2 := pa.at (i := 2) rfl
  have G := hid b1
  have EW := hid hW
  generalize P.drop 1 = P1 at *
  generalize kp + kr + d * (ka + n + 1) = kk at *
  clear hA hR hP M0 b1 sz0 hW hla hk ho hc pa HP
  go_enter Try.func58, Try.ntmps58
  go_wp2_with fail
  rw [EW.out]
  clear EW
  have KB : Hid (∀ w', Below W0.heap.size W0 w' → w'.cell? ⟨w.heap.size, 0, none⟩ = some (.int .i64 (n : Int)) ∧ w'.cell? ⟨w.heap.size, 1, none⟩ = some (.int .i64 (n : Int)) ∧ w'.cell? ⟨w.heap.size, 2, none⟩ = some (.slice aa la ca)) := fun w' h => ⟨cnow h k0, cnow h k1, cnow h k2⟩
  refine wp_region_tail (fun w' => w'.cell? ⟨w.heap.size, 0, none⟩ = some (.int .i64 (n : Int)) ∧ w'.cell? ⟨w.heap.size, 1, none⟩ = some (.int .i64 (n : Int)) ∧ w'.cell? ⟨w.heap.size, 2, none⟩ = some (.slice aa la ca)) 5 (by kernel_rfl) ?_
  obtain ⟨D61, hD⟩ : ∃ D61, W0.drew = D61 := ⟨_, rfl⟩
  have GB : Hid (Below W0.heap.size W0 D61) := by unfold Hid; rw [← hD]; exact (Below.refl _ _).drew
  rw [hD]
  clear hD
  refine wpAnyT_list [(0, (.slice ar n cr)), (1, (.slice (some ⟨b0, o0, none⟩) (d + 1) cp)), (2, (.slice (some ⟨b0, o', none⟩) d c')), (3, (.agg #[.int .i64 (n : Int), .int .i64 (n : Int), .slice aa la ca]))] 4 ?_ (KB.out _ GB.out) ?_
  · simp only [TakesV, gA9, g09, g19, Act.put, sI9, s09, s19]
    (repeat' (first | exact trivial | refine And.intro (Or.inl ⟨by rfl, ?_⟩) ?_)) <;> (intro w hSw; (try dsimp only at hSw); go_simp)
  simp only [actV, gA9, g09, g19, Act.put, sI9, s09, s19]
  refine wpAnyT_one (i := 4) (o := { dst := some 11, op := Op.call { callee := Callee.value (Operand.func 73), args := #[Operand.tmp 7, Operand.tmp 9, Operand.tmp 10], argTypes := #[22, 22, 39] }, type := 77, pos := "char.go:38", after := #[{ on := 0, ground := Ground.data }, { on := 2, ground := Ground.data }, { on := 3, ground := Ground.data }], guard := none }) (by kernel_rfl) rfl (fun K hK => ?_)
  have lzb : Hid (W0.heap.size ≤ D61.heap.size) := GB.out.size
  go_simp
  go_at_call 73
  refine (HT.out _ GB.out).mono ?_
  rintro e w62 ⟨ga, N, rfl, hg1, hp1, b⟩
  have lz62 := (show Below _ _ _ from b).size
  replace GB := hid (below_step GB.out b)
  have FIN : Hid (Tailed w n d A R P1 kk (.returned (.slice (some ⟨ga, 0, none⟩) d d)) w62) := ⟨ga, N, rfl, Nat.le_trans (Nat.le_trans G.out.size lzb.out) hg1, hp1, below_step G.out GB.out⟩
  clear hg1 hp1
  clear b
  refine hK.out _ _ (fun _ => KB.out _ GB.out) ?_
  clear hK
  refine wpAnyT_one (i := 5) (o := { dst := some 6, op := Op.assign (Operand.tmp 11), type := 77, pos := "char.go:38", after := #[{ on := 4, ground := Ground.data }, { on := 4, ground := Ground.chain }, { on := 0, ground := Ground.phase }, { on := 1, ground := Ground.phase }, { on := 2, ground := Ground.phase }, { on := 3, ground := Ground.phase }, { on := 4, ground := Ground.phase }], guard := none }) (by kernel_rfl) rfl (fun K hK => ?_)
  go_simp
  refine hK.out _ _ (fun h => absurd h (by decide)) ?_
  clear hK
  try simp only [Act.put]
  refine wpAnyT_done (by kernel_rfl) ?_ _
  clear KB GB HT G lzb
  go_wp2
  go_ret
  exact FIN.out
end Go.Proofs.Ytnpcfohimlfbdaa

/- Ints9 -/
namespace Go.Proofs.Ytnpcfohimlfbdaa
open Go.RowKit
set_option linter.unusedVariables false

/-- A list of ints. -/
def In9 (w : World) (v : Value) (is : List Int) : Prop :=
  ∃ a c, v = .slice a is.length c ∧ is.length ≤ c ∧ is.length ≤ 1048576 ∧ (is = [] ∨ ∃ b off, a = some ⟨b, off, none⟩ ∧ b < w.heap.size ∧ ∀ j (h : j < is.length), w.cell? ⟨b, off + j, none⟩ = some (.int .i64 is[j]))
theorem In9.now {w w' : World} {v : Value} {is : List Int} (h : In9 w v is) (hb : Below w.heap.size w w') : In9 w' v is := by
  obtain ⟨a, c, h1, h2, h3, h4⟩ := h
  refine ⟨a, c, h1, h2, h3, ?_⟩
  rcases h4 with h4 | ⟨b, off, h5, h6, h7⟩
  · exact .inl h4
  · exact .inr ⟨b, off, h5, Nat.lt_of_lt_of_le h6 hb.size, fun j hj => (hb.cell (p := ⟨b, off + j, none⟩) h6).trans (h7 j hj)⟩
theorem In9.form {w : World} {v : Value} {is : List Int} (h : In9 w v is) : ∃ a c, v = .slice a is.length c ∧ is.length ≤ c ∧ is.length ≤ 1048576 ∧ (is ≠ [] → ∃ b off, a = some ⟨b, off, none⟩) := by
  obtain ⟨a, c, h1, h2, h3, h4⟩ := h
  refine ⟨a, c, h1, h2, h3, fun hn => ?_⟩
  rcases h4 with h4 | ⟨b, off, h5, _⟩
  · exact absurd h4 hn
  · exact ⟨b, off, h5⟩
theorem In9.at {w : World} {b off l c : Nat} {is : List Int} (h : In9 w (.slice (some ⟨b, off, none⟩) l c) is) {i : Nat} (hi : i < is.length) : w.cell? ⟨b, off + i, none⟩ = some (.int .i64 is[i]) := by
  obtain ⟨a, c, h1, h2, h3, h4⟩ := h
  rcases h4 with h4 | ⟨b', off', h5, h6, h7⟩
  · subst h4; simp at hi
  · subst h5
    injection h1 with e1 e2 e3
    injection e1 with e1
    injection e1 with e1 e4
    subst e1 e4
    exact h7 i hi
abbrev fnBelow (pb : Nat) : Value := .func (.func 76) #[] #[.pointer (some ⟨pb, 0, none⟩)]
set_option maxHeartbeats 800000 in
set_option maxRecDepth 100000 in
theorem below1_no {w : World} {x n : Int} {pb : Nat} (hp : w.cell? ⟨pb, 0, none⟩ = some (.int .i64 n)) (h0 : 0 ≤ x) (h1 : x < n) : Calls Try.prog 76 #[.int .i64 x, .pointer (some ⟨pb, 0, none⟩)] w fun e w' => e = .returned (.bool false) ∧ w' = w := by
  have q0 : ¬ x < 0 := by omega
  have q1 : ¬ n ≤ x := by omega
  go_enter Try.func76, Try.ntmps76
  go_wp2
  go_ret
  exact ⟨rfl, rfl⟩
def Idx9 (w : World) (n g : Nat) (s : Value) (wx : World) : Prop := ∃ i : Nat, s = .int .i64 (i : Int) ∧ i ≤ n ∧ g = n - i ∧ Below w.heap.size w wx
set_option maxHeartbeats 1600000 in
set_option maxRecDepth 100000 in
theorem index9 {w : World} {v : Value} {is : List Int} {b : Int} {pb : Nat} (hv : In9 w v is) (hp : w.cell? ⟨pb, 0, none⟩ = some (.int .i64 b)) (ha : ∀ x ∈ is, 0 ≤ x ∧ x < b) :
    Calls Try.prog 79 #[v, fnBelow pb] w fun e w' => e = .returned (.int .i64 (-1)) ∧ Below w.heap.size w w' := by
  have V0 := hid hv
  have P0 := hid hp
  have HA : Hid (∀ i (h : i < is.length), 0 ≤ is[i] ∧ is[i] < b) := fun i h => ha _ (List.getElem_mem h)
  obtain ⟨a0, c0, rfl, hc0, hn0, hf0⟩ := hv.form
  obtain ⟨n, hn⟩ : ∃ n, is.length = n := ⟨_, rfl⟩
  rw [hn] at V0 hc0 hn0 ⊢
  have HN := hid hn
  have F0 := hid hf0
  clear hv hf0 hn hp ha
  have H0 : Hid (Idx9 w n n (.int .i64 0) w) := ⟨0, rfl, Nat.zero_le _, rfl, Below.refl _ _⟩
  go_enter Try.func79, Try.ntmps79
  go_wp2_with fail
  go_loopg [8] n (fun g s8 wx => Idx9 w n g s8 wx)
  case atStart => exact H0.out
  case round =>
    clear H0
    obtain ⟨i, rfl, hin, hg, hG⟩ := hrel
    have G := hid hG
    have HG := hid hg
    clear hG hg
    by_cases hlt : i < n
    · have hlt' : (i : Int) < (n : Int) := by omega
      obtain ⟨b1, o1, rfl⟩ := F0.out (fun e => by have := HN.out; rw [e] at this; simp at this; omega)
      have k0 := (V0.out.now G.out).at (i := i) (by rw [HN.out]; exact hlt)
      have hx := HA.out i (by rw [HN.out]; exact hlt)
      have HS := hid (below1_no (cnow G.out P0.out) hx.1 hx.2)
      have hw := wrapI9 (i := i) (by omega)
      generalize is[i]'(by rw [HN.out]; exact hlt) = x at *
      clear hx
      go_wp2_with fail
      refine HS.out.mono ?_
      rintro e w1 ⟨rfl, q⟩
      rw [q]
      have HN1 : Hid (Idx9 w n (n - (i + 1)) (.int .i64 ((i + 1 : Nat) : Int)) wr) := ⟨i + 1, rfl, by omega, rfl, G.out⟩
      have HMM : Hid (n - (i + 1) < gk) := by unfold Hid; rw [HG.out]; omega
      clear HS G HG k0 q
      go_wp2_with fail
      go_roundg (n - (i + 1))
      case rel => exact HN1.out
      case measure => exact HMM.out
    · have hlt' : ¬ (i : Int) < (n : Int) := by omega
      clear HG
      go_wp2
      go_ret
      exact ⟨rfl, G.out⟩
set_option maxHeartbeats 800000 in
set_option maxRecDepth 100000 in
theorem contains9 {w : World} {v : Value} {is : List Int} {b : Int} {pb : Nat} (hv : In9 w v is) (hp : w.cell? ⟨pb, 0, none⟩ = some (.int .i64 b)) (ha : ∀ x ∈ is, 0 ≤ x ∧ x < b) :
    Calls Try.prog 75 #[v, fnBelow pb] w fun e w' => e = .returned (.bool false) ∧ Below w.heap.size w w' := by
  have HI := hid (index9 hv hp ha)
  obtain ⟨a0, c0, rfl, -, -, -⟩ := hv.form
  clear hv hp ha
  go_enter Try.func75, Try.ntmps75
  go_wp2_with fail
  refine HI.out.mono ?_
  rintro e w1 ⟨rfl, b⟩
  have G := hid b
  clear HI b
  go_wp2
  go_ret
  exact ⟨rfl, G.out⟩
set_option maxHeartbeats 800000 in
set_option maxRecDepth 100000 in
theorem areBelow_yes {w : World} {v : Value} {is : List Int} {b : Int} (hv : In9 w v is) (ha : ∀ x ∈ is, 0 ≤ x ∧ x < b) :
    Calls Try.prog 66 #[v, .int .i64 b] w fun e w' => e = .returned (.bool true) ∧ Below w.heap.size w w' := by
  obtain ⟨W0, hW⟩ : ∃ W0, w.alloc (.cells #[.int .i64 b] 3) = W0 := ⟨_, rfl⟩
  obtain ⟨b0, sz0⟩ := alo1 w (.cells #[.int .i64 b] 3)
  rw [hW] at b0 sz0
  have hp : W0.cell? ⟨w.heap.size, 0, none⟩ = some (.int .i64 b) := by rw [← hW]; exact (Cel.new w 3 [.int .i64 b]).at (i := 0) rfl
  have HC := hid (contains9 (hv.now b0) hp ha)
  obtain ⟨a0, c0, rfl, -, -, -⟩ := hv.form
  have G0 := hid b0
  have EW := hid hW
  clear hv ha b0 hW sz0 hp
  go_enter Try.func66, Try.ntmps66
  go_wp2_with fail
  rw [EW.out]
  refine HC.out.mono ?_
  rintro e w1 ⟨rfl, b⟩
  have G := hid (below_step G0.out b)
  clear HC G0 EW b
  go_wp2
  go_ret
  exact ⟨rfl, G.out⟩
end Go.Proofs.Ytnpcfohimlfbdaa
