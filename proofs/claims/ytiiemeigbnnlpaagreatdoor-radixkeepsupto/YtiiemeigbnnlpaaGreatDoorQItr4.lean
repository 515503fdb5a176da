/-
  Itr4: ints that a call gathers by append and writes in their place.
-/
import Derived.Test.YtiiemeigbnnlpaaGreatDoorQRText4
namespace Go.Proofs.YtiiemeigbnnlpaaGreatDoor
open Go.RowKit
set_option linter.unusedVariables false

def Itr (B : Nat) (w : World) (v : Value) (ds : List Int) : Prop := w.ownsRow B 3 1 v ds.length (wi ds)
theorem Itr.nil (B : Nat) (w : World) : Itr B w (.slice none 0 0) [] := World.ownsRow_nil _ _ _ _
theorem Itr.now {B : Nat} {w w' : World} {v : Value} {ds : List Int} (h : Itr B w v ds) (hb : Below w.heap.size w w') : Itr B w' v ds := by
  obtain ⟨q1, q2 | ⟨g, cap, cur, q2, q3, q4, q5⟩⟩ := h
  · exact ⟨q1, .inl q2⟩
  · exact ⟨q1, .inr ⟨g, cap, cur, q2, q3, (hb.block g (Array.getElem?_eq_some_iff.1 q4).1).trans q4, q5⟩⟩
theorem Itr.form {B : Nat} {w : World} {v : Value} {ds : List Int} (h : Itr B w v ds) : ∃ a cap, v = .slice a ds.length cap := by
  obtain ⟨q1, ⟨q2, q3⟩ | ⟨g, cap, cur, q2, _⟩⟩ := h
  · exact ⟨none, 0, by rw [q2, q3]⟩
  · exact ⟨_, cap, q2⟩
theorem Itr.row {B : Nat} {w : World} {v : Value} {ds : List Int} (h : Itr B w v ds) (hn : 0 < ds.length) : ∃ g cap rest, v = .slice (some ⟨g, 0, none⟩) ds.length cap ∧ B ≤ g ∧ g < w.heap.size ∧ RowI w g (wi ds ++ rest) ∧ ds.length + rest.length = cap ∧ cap ≤ maxLen := by
  obtain ⟨q1, ⟨q2, q3⟩ | ⟨g, cap, cur, q2, q3, q4, q5, q6, q7, q8⟩⟩ := h
  · omega
  · rw [Nat.mul_one] at q7 q8
    refine ⟨g, cap, cur.toList.drop ds.length, q2, q3, (Array.getElem?_eq_some_iff.1 q4).1, ?_, ?_, q6⟩
    · unfold RowI
      rw [← q8, List.take_append_drop]
      simpa using q4
    · have e : cur.toList.length = cap := by simp [q7]
      rw [List.length_drop, e]
      omega
theorem Itr.of {B : Nat} {w : World} {g cap : Nat} {ds : List Int} {rest : List Value} (hB : B ≤ g) (hr : RowI w g (wi ds ++ rest)) (hc : ds.length + rest.length = cap) (hm : cap ≤ maxLen) : Itr B w (.slice (some ⟨g, 0, none⟩) ds.length cap) ds := by
  refine ⟨by simp [wi], .inr ⟨g, cap, (wi ds ++ rest).toArray, rfl, hB, hr, by omega, hm, ?_, ?_⟩⟩
  · simp [wi]; omega
  · simp [wi]
theorem wpList_append_itr (w : World) {ops : Array Oper} {rest : List Oper} {o : Oper} {a : Act} {Q : Exit → Act → World → Prop}
    (hgd : o.guard = none) (s x : Operand) (hop : o.op = .call { callee := .builtin .append, args := #[s, x], argTypes := #[54, 54] })
    (B : Nat) (v : Value) (L : List Int) (c : Int) (hs : a.eval s = v) (hB : Itr B w v L) (g : Nat) (hx : a.eval x = .slice (some ⟨g, 0, none⟩) 1 1) (hc : w.cell? ⟨g, 0, none⟩ = some (.int .i64 c)) (hlen : L.length ≤ 1000000000) (hBs : B ≤ w.heap.size)
    (hK : ∀ a' cap' w', Hid (Itr B w' (.slice a' (L.length + 1) cap') (L ++ [c])) → Hid (Below B w w') → wpList Tryz.prog ops Q rest (a.put o.dst (.slice a' (L.length + 1) cap')) w') :
    wpList Tryz.prog ops Q (o :: rest) a w := by
  obtain ⟨i, hi, hz, hsz, hby⟩ := info_parts Tryz.infoI
  refine wpList_append_lies w hgd s x 54 hop B 3 i (.int .i64 0) 1 8 Tryz.underlying54 hi hz hsz hby rfl (by omega) v L.length (wi L) hs hB ⟨g, 0, none⟩ 1 1 [.int .i64 c] hx rfl ?_ ?_ (by omega) (by unfold maxLen; omega) (by omega) hBs w.heap.size rfl ?_
  · intro j u' hj
    match j, hj with
    | 0, hj => simp at hj; subst hj; rw [head_add]; exact hc
  · intro u' hu'
    simp at hu'
    subst hu'
    rfl
  · intro g' cap' w' k1 k2 k3 k4
    refine hK _ _ w' ?_ ?_
    · unfold Hid Itr
      have e : wi (L ++ [c]) = wi L ++ [.int .i64 c] := by simp [wi]
      rw [e, List.length_append, List.length_singleton]
      exact k1
    · refine ⟨k2.os, k2.tape, k2.output, k2.size, fun k hk => k2.block k (by omega) (fun e => ?_)⟩
      obtain ⟨_, ⟨q, _⟩ | ⟨g1, cap1, cur, q, q3, _⟩⟩ := hB
      · rw [q] at e; cases e
      · rw [q] at e
        obtain rfl : k = g1 := by simpa [Value.ownBlock] using e
        omega
theorem dval_take4 {ds : List Int} {i : Nat} (h : i < ds.length) : dval (ds.take (i + 1)) = dval (ds.take i) + dpw i * ds[i] := by
  rw [List.take_succ_eq_append_getElem h, dval_append]
  simp [dval, Nat.min_eq_left (Nat.le_of_lt h)]
/-- One digit of onto. -/
theorem onto_step {es ds : List Int} {i : Nat} {B v0 c x : Int} (hi : i < ds.length) (hx : ds[i] = x) (hl : es.length = i) (hd : DF es) (he : dval es + dpw i * c = B * dval (ds.take i) + v0) :
    DF (es ++ [(x * B + c) % 65536]) ∧ dval (es ++ [(x * B + c) % 65536]) + dpw (i + 1) * ((x * B + c) / 65536) = B * dval (ds.take (i + 1)) + v0 := by
  refine split_step hl hd ?_
  rw [dval_take4 hi, hx]
  generalize dval (ds.take i) = T at *
  generalize dpw i = P at *
  generalize dval es = E at *
  grind
theorem set_mid {es ds : List Int} {i : Nat} {z : Int} (hl : es.length = i) (hi : i < ds.length) : (es ++ ds.drop i).set i z = es ++ [z] ++ ds.drop (i + 1) := by
  have e := List.drop_eq_getElem_cons hi
  rw [List.set_append_right _ _ (by omega), hl, Nat.sub_self, e, List.set_cons_zero, List.append_assoc]
  rfl
/-- value: of a digit sign. -/
def ValH (w : World) (c : Nat) (gk : Nat) (s3 : Value) (wx : World) : Prop := ∃ i : Nat, gk = 36 - i ∧ s3 = .int .i64 (i : Int) ∧ i ≤ 36 ∧ (∀ e, e < i → sgn e ≠ (c : Int)) ∧ wx = w
set_option maxRecDepth 100000 in
set_option maxHeartbeats 1600000 in
theorem value_any {c : Nat} (hc : c < 256) (w : World) : Calls Tryz.prog 34 #[.int .u8 (c : Int)] w fun e w' => e = .returned (.int .i64 (dv c : Int)) ∧ w' = w := by
  by_cases hu : 65 ≤ c ∧ c ≤ 90
  · have e : dv c = c - 55 := by unfold dv; rw [if_neg (by omega), if_neg (by omega), if_pos hu]
    rw [e]
    obtain ⟨h1, h2⟩ := hu
    have h1' : (65 : Int) ≤ (c : Int) := by omega
    have h2' : (c : Int) ≤ 90 := by omega
    have w1 : IntKind.u8.wrap ((c : Int) - 65) = (c : Int) - 65 := by rw [IntKind.wrap_u8]; omega
    have w2 : IntKind.i64.wrap ((c : Int) - 65) = (c : Int) - 65 := by rw [wrap_is] <;> omega
    have w3 : IntKind.i64.wrap ((c : Int) - 65 + 10) = ((c - 55 : Nat) : Int) := by rw [wrap_is] <;> omega
    clear e
    go_enter Tryz.func34, Tryz.ntmps34
    go_wp2
    go_ret
    exact ⟨rfl, rfl⟩
  · have H0 : Hid (ValH w c 36 (.int .i64 0) w) := ⟨0, rfl, rfl, by omega, fun e h => absurd h (Nat.not_lt_zero _), rfl⟩
    have HLW : Hid (lw c = c) := by unfold Hid lw; rw [if_neg hu]
    by_cases h65 : 65 ≤ c
    · have h1' : (65 : Int) ≤ (c : Int) := by omega
      have h2' : ¬ (c : Int) ≤ 90 := by omega
      clear hu h65
      go_enter Tryz.func34, Tryz.ntmps34
      go_wp2_with fail
      go_loopg [3] 36 (fun gk s3 wx => ValH w c gk s3 wx)
      case atStart => exact H0.out
      case round =>
        clear H0
        obtain ⟨i, hgk, rfl, hi, hall, hwx⟩ := hrel
        rw [hwx]
        have HG := hid hgk
        have HA := hid hall
        clear hgk hall hwx
        by_cases hlt : i < 36
        · have hlt' : (i : Int) < 36 := by omega
          have hq := sigT_at i hlt (by rw [sigT_size]; exact hlt)
          unfold sigT at hq
          have hw3 : IntKind.i64.wrap ((i : Int) + 1) = ((i + 1 : Nat) : Int) := by rw [wrap_is] <;> omega
          by_cases hs : sgn i = (c : Int)
          · have hb : (sgn i == (c : Int)) = true := by simp [hs]
            have HD : Hid (dv c = i) := dv_of hlt (by rw [HLW.out]; exact hs)
            clear hs HG HA
            generalize sgn i = sv at *
            go_wp2
            go_ret
            exact ⟨by rw [HD.out]; rfl, rfl⟩
          · have hb : (sgn i == (c : Int)) = false := by simp [hs]
            have HN1 : Hid (ValH w c (36 - (i + 1)) (.int .i64 ((i + 1 : Nat) : Int)) w) := ⟨i + 1, rfl, rfl, by omega, fun e he => by
              by_cases q : e = i
              · rw [q]; exact hs
              · exact HA.out e (by omega), rfl⟩
            have HMM : Hid (36 - (i + 1) < gk) := by unfold Hid; rw [HG.out]; omega
            clear hs HG HA
            generalize sgn i = sv at *
            go_wp2_with fail
            go_roundg (36 - (i + 1))
            case rel => exact HN1.out
            case measure => exact HMM.out
        · have hlt' : ¬ (i : Int) < 36 := by omega
          have HD : Hid (dv c = 99) := by
            unfold Hid
            have h1 : ¬ dv c < 36 := fun h => HA.out (dv c) (by omega) (by rw [sgn_dv h, HLW.out])
            unfold dv at h1 ⊢
            split <;> (try split) <;> (try split) <;> simp_all <;> omega
          clear HG HA
          go_wp2
          go_ret
          exact ⟨by rw [HD.out]; rfl, rfl⟩
    · have h1' : ¬ (65 : Int) ≤ (c : Int) := by omega
      clear hu h65
      go_enter Tryz.func34, Tryz.ntmps34
      go_wp2_with fail
      go_loopg [3] 36 (fun gk s3 wx => ValH w c gk s3 wx)
      case atStart => exact H0.out
      case round =>
        clear H0
        obtain ⟨i, hgk, rfl, hi, hall, hwx⟩ := hrel
        rw [hwx]
        have HG := hid hgk
        have HA := hid hall
        clear hgk hall hwx
        by_cases hlt : i < 36
        · have hlt' : (i : Int) < 36 := by omega
          have hq := sigT_at i hlt (by rw [sigT_size]; exact hlt)
          unfold sigT at hq
          have hw3 : IntKind.i64.wrap ((i : Int) + 1) = ((i + 1 : Nat) : Int) := by rw [wrap_is] <;> omega
          by_cases hs : sgn i = (c : Int)
          · have hb : (sgn i == (c : Int)) = true := by simp [hs]
            have HD : Hid (dv c = i) := dv_of hlt (by rw [HLW.out]; exact hs)
            clear hs HG HA
            generalize sgn i = sv at *
            go_wp2
            go_ret
            exact ⟨by rw [HD.out]; rfl, rfl⟩
          · have hb : (sgn i == (c : Int)) = false := by simp [hs]
            have HN1 : Hid (ValH w c (36 - (i + 1)) (.int .i64 ((i + 1 : Nat) : Int)) w) := ⟨i + 1, rfl, rfl, by omega, fun e he => by
              by_cases q : e = i
              · rw [q]; exact hs
              · exact HA.out e (by omega), rfl⟩
            have HMM : Hid (36 - (i + 1) < gk) := by unfold Hid; rw [HG.out]; omega
            clear hs HG HA
            generalize sgn i = sv at *
            go_wp2_with fail
            go_roundg (36 - (i + 1))
            case rel => exact HN1.out
            case measure => exact HMM.out
        · have hlt' : ¬ (i : Int) < 36 := by omega
          have HD : Hid (dv c = 99) := by
            unfold Hid
            have h1 : ¬ dv c < 36 := fun h => HA.out (dv c) (by omega) (by rw [sgn_dv h, HLW.out])
            unfold dv at h1 ⊢
            split <;> (try split) <;> (try split) <;> simp_all <;> omega
          clear HG HA
          go_wp2
          go_ret
          exact ⟨by rw [HD.out]; rfl, rfl⟩
end Go.Proofs.YtiiemeigbnnlpaaGreatDoor
