/-
  QTrimToByWord: Trim, ByWord, joined.
-/
import Derived.Test.YtdfnehngffajiabDoorQDivModToTimes
import Derived.Test.YtdfnehngffajiabDoorQCarryToMade
import Derived.Test.YtdfnehngffajiabDoorQLen2ToDivPure

/- Trim -/
namespace Go.Proofs.YtdfnehngffajiabDoor
open Go.RowKit
set_option linter.unusedVariables false

theorem wid_of_len {xs : List Int} (hw : WF xs) : ∃ b : Nat, bitLen (vn xs) = b ∧ (b + 63) / 64 = wid xs ∧ b ≤ 64 * xs.length := by
  refine ⟨_, rfl, ?_⟩
  by_cases h0 : wid xs = 0
  · rw [wid_zero_vn hw h0, h0]
    exact ⟨rfl, by rw [show bitLen 0 = 0 from rfl]; omega⟩
  · obtain ⟨n, hn⟩ : ∃ n, wid xs = n + 1 := ⟨wid xs - 1, by omega⟩
    obtain ⟨hl, hne⟩ := wid_top hn
    have h1 := bitLen_words hw hn hl
    have h2 := bitLen_small (toNat_lt (hw.get hl))
    have h3 : 0 < bitLen xs[n].toNat := by
      unfold bitLen
      split
      · rename_i e
        have := (hw.get hl).1
        omega
      · omega
    rw [h1, hn]
    exact ⟨by omega, by omega⟩

/-- A slice that a call made itself: nil, or at the head of a row from block B on. -/
def Mine (B : Nat) (w : World) (v : Value) (zs : List Int) : Prop :=
  WF zs ∧ ((v = .slice none 0 0 ∧ zs = []) ∨ ∃ g r cap, B ≤ g ∧ zs.length ≤ 35184372088832 ∧ zs.length ≤ cap ∧ (cap = zs.length ∨ (cap = zs.length + r.length ∧ cap ≤ maxLen)) ∧ v = .slice (some ⟨g, 0, none⟩) zs.length cap ∧ Row w g (ws zs ++ r))
theorem Mine.form {B : Nat} {w : World} {v : Value} {zs : List Int} (h : Mine B w v zs) : ∃ a cap, v = .slice a zs.length cap := by
  obtain ⟨_, ⟨h1, h2⟩ | ⟨g, r, cap, _, _, _, _, h1, _⟩⟩ := h
  · subst h2; exact ⟨none, 0, h1⟩
  · exact ⟨_, _, h1⟩
theorem Mine.sl {B : Nat} {w : World} {v : Value} {zs : List Int} (h : Mine B w v zs) : Sl w.heap.size w v zs := by
  obtain ⟨hw, ⟨h1, h2⟩ | ⟨g, r, cap, h1, h2, h3, h4, h5, h6⟩⟩ := h
  · subst h1 h2; exact Sl.nilAt w
  · subst h5
    exact ⟨hw, _, cap, rfl, h3, h2, .inr ⟨g, 0, rfl, h6.lt, fun j hj => by rw [Nat.zero_add]; exact h6.word hj⟩⟩
theorem Mine.nil (B : Nat) (w : World) : Mine B w (.slice none 0 0) [] := ⟨WF.nil, .inl ⟨rfl, rfl⟩⟩
theorem Mine.mono {B B' : Nat} {w : World} {v : Value} {zs : List Int} (h : Mine B w v zs) (hB : B' ≤ B) : Mine B' w v zs := by
  obtain ⟨hw, h | ⟨g, r, cap, h1, h2⟩⟩ := h
  · exact ⟨hw, .inl h⟩
  · exact ⟨hw, .inr ⟨g, r, cap, by omega, h2⟩⟩
theorem Mine.below {B : Nat} {w w' : World} {v : Value} {zs : List Int} (h : Mine B w v zs) (hb : Below w.heap.size w w') : Mine B w' v zs := by
  obtain ⟨hw, h | ⟨g, r, cap, h1, h2, h3, h4, h5, h6⟩⟩ := h
  · exact ⟨hw, .inl h⟩
  · exact ⟨hw, .inr ⟨g, r, cap, h1, h2, h3, h4, h5, h6.below hb h6.lt⟩⟩

set_option maxHeartbeats 800000 in
theorem trimmed_any {B : Nat} {w : World} {a : Option Addr} {len cap : Nat} {xs : List Int} (h : Sl B w (.slice a len cap) xs) :
    Calls Tryd.prog 52 #[.slice a len cap] w fun e w' => e = .returned (.slice a (wid xs) (wid xs)) ∧ w' = w := by
  have HB := bitLen_any h
  obtain ⟨b, hb1, hb2, hb3⟩ := wid_of_len h.1
  rw [hb1] at HB
  have l1 := wid_le xs
  obtain ⟨hw, a', cap', he, hlc, hcm, hm⟩ := h
  simp only [Value.slice.injEq] at he
  obtain ⟨rfl, rfl, rfl⟩ := he
  clear hm hw hb1
  generalize wid xs = n at *
  generalize xs.length = L at *
  go_enter Tryd.func52, Tryd.ntmps52
  go_wp2_with fail
  refine HB.mono ?_
  rintro e w1 ⟨rfl, rfl⟩
  clear HB
  go_wp2
  go_ret
  exact ⟨by rw [show (b + 64 - 1) / 64 = n by omega]; rfl, rfl⟩
end Go.Proofs.YtdfnehngffajiabDoor

/- ByWord -/
namespace Go.Proofs.YtdfnehngffajiabDoor
open Go.RowKit
set_option linter.unusedVariables false

theorem zeros_head {zs : List Int} {n j : Nat} (h : zs.drop n = List.replicate (j + 1) 0) : ∃ hn : n < zs.length, zs[n] = 0 := by
  have hl := congrArg List.length h
  simp only [List.length_drop, List.length_replicate] at hl
  refine ⟨by omega, ?_⟩
  have e : zs.drop n = zs[n]'(by omega) :: zs.drop (n + 1) := List.drop_eq_getElem_cons (by omega)
  rw [e, List.replicate_succ] at h
  exact (List.cons.inj h).1
theorem zeros_tail {zs : List Int} {n j : Nat} (h : zs.drop n = List.replicate (j + 1) 0) : zs.drop (n + 1) = List.replicate j 0 := by
  rw [show n + 1 = 1 + n by omega, Nat.add_comm 1 n, ← List.drop_drop, h, List.replicate_succ]
  rfl
theorem trim_mine {B w' : _} {g : Nat} {zs : List Int} (hB : B ≤ g) (hw : WF zs) (hl : zs.length ≤ 35184372088832) (hr : Row w' g (ws zs)) : Mine B w' (.slice (some ⟨g, 0, none⟩) (wid zs) (wid zs)) (lst zs) := by
  have := wid_le zs
  refine ⟨(canon_lst hw).1, .inr ⟨g, ws (zs.drop (wid zs)), wid zs, hB, by rw [length_lst]; omega, by rw [length_lst]; exact Nat.le_refl _, by rw [length_lst]; omega, by rw [length_lst], ?_⟩⟩
  have e : ws (lst zs) ++ ws (zs.drop (wid zs)) = ws zs := by
    unfold lst ws
    rw [← List.map_append, List.take_append_drop]
  rw [e]; exact hr

/-- What a call answers that makes a number: a row of its own, in least form. -/
def Makes (w : World) (s : Int) (e : Ending) (w' : World) : Prop :=
  ∃ zs r, e = .returned r ∧ Mine w.heap.size w' r zs ∧ Canon zs ∧ val zs = s ∧ Below w.heap.size w w'

set_option maxHeartbeats 1600000 in
theorem byWord_any {w : World} {v u : Value} {xs ys : List Int} (h : Sl w.heap.size w v xs) (h' : Sl w.heap.size w u ys) (hl : xs.length + ys.length ≤ 35184372088832) :
    Calls Tryd.prog 53 #[v, u] w (Makes w (val xs * val ys)) := by
  have HS := hid h
  have hwx := h.1
  obtain ⟨_, a, capx, rfl, hlc, hcm, _⟩ := h
  obtain ⟨hwy, b, capy, rfl, hlc', hcm', hm'⟩ := h'
  have HM' := hid hm'
  have HTL : Hid (ys.take ys.length = ys) := by unfold Hid; simp
  have HV0 : Hid (∀ k, val (List.replicate k 0) = val xs * val (ys.take 0)) := fun k => by rw [val_zeros]; simp [val]
  obtain ⟨n, hn⟩ : ∃ n, n = xs.length := ⟨_, rfl⟩
  obtain ⟨m, hm⟩ : ∃ m, m = ys.length := ⟨_, rfl⟩
  rw [← hn] at HS hl hlc
  rw [← hm] at hl hlc' HTL
  rw [← hn, ← hm]
  have HN := hid hn
  have HMM := hid hm
  clear hn hm hm'
  go_enter Tryd.func53, Tryd.ntmps53
  go_wp2_with (at_make; refine wpList_make_words _ rfl _ _ rfl _ _ (n + m) (n + m) rfl rfl (by omega) (by omega) (Nat.le_refl _) (by omega) ?_)
  intro w2 hrow hb2 hsz2
  have hhs : w.heap.size < w2.heap.size := by have := hsz2.out; omega
  go_wp2_with fail
  go_loopw [16] (fun i wr => ∃ (k : Nat) (zs : List Int), k ≤ m ∧ i = .int .i64 k ∧ Hid (zs.length = n + m) ∧ WF zs ∧ Hid (val zs = val xs * val (ys.take k)) ∧ Hid (zs.drop (k + n) = List.replicate (m - k) 0) ∧ Row wr w.heap.size (ws zs) ∧ Below w.heap.size w wr) (fun i _ => m - (intOf i).toNat)
  case atStart => exact ⟨0, List.replicate (n + m) 0, Nat.zero_le _, rfl, (by unfold Hid; simp), wf_zeros _, HV0.out _, (by unfold Hid; simp), hrow, hb2⟩
  case round =>
    clear hrow hb2 hsz2 hhs
    obtain ⟨k, zs, hk, rfl, HL, hwz, HV, HD, hr, hb⟩ := hrel
    by_cases hlt : k < m
    · have hk2 : k < ys.length := by have := HMM.out; omega
      obtain ⟨j, hj⟩ : ∃ j, m - k = j + 1 := ⟨m - k - 1, by omega⟩
      have HD2 := hid HD.out
      rw [hj] at HD2
      have hk1 := (zeros_head HD2.out).1
      rcases HM'.out with e | ⟨bb, off, rfl, hbg, hcy⟩
      · subst e; simp at hk2
      have c2 : wr.cell? ⟨bb, off + k, none⟩ = some (.int .u64 ys[k]) := (hb.cell (p := ⟨bb, off + k, none⟩) hbg).trans (hcy k hk2)
      have HA := hid (addTimes_any (o := k) (len := n + m - k) (cap := n + m - k) (r := []) hwz (by simpa using hr) (by rw [HL.out]; omega) (HS.out.below hb (Nat.le_refl _)) (hwy.get hk2) (by rw [← HN.out, HL.out]; omega) (by rw [← HN.out]; omega))
      rw [← HN.out] at HA
      have HY : Hid (∃ y, y = ys[k]) := ⟨_, rfl⟩
      have HW2 := hid (hwy.get hk2)
      have HST : Hid (∀ zs' c, val zs' + pw (k + n) * c = val zs + pw k * (val xs * ys[k]) → ∀ hz : k + n < zs'.length, zs'[k + n] = 0 → val (zs'.set (k + n) c) = val xs * val (ys.take (k + 1))) := fun zs' c h1 hz h2 => rows_step hk2 rfl HV.out h1 hz h2
      generalize ys[k] = y at *
      clear hcy
      go_wp2_with fail
      refine HA.out.mono ?_
      rintro e w3 ⟨zs', c, rfl, hzl, hwz', hc, hv, hd, hr3, hb3⟩
      have D3 := hd.trans HD2.out
      obtain ⟨hk3, hz3⟩ := zeros_head D3
      have hr4 : Row w3 w.heap.size (ws zs' ++ []) := hr3
      have c3 : w3.cell? ⟨w.heap.size, k + n, none⟩ = some (.int .u64 zs'[k + n]) := hr4.word hk3
      have cf : w3.frozen? ⟨w.heap.size, k + n, none⟩ = false := hr4.frozen _
      have HV4 := hid (HST.out zs' c hv hk3 hz3)
      have HR4 := hid (hr4.setWord hk3 c)
      have HB4 := hid ((hb.trans hb3).setCell (p := ⟨w.heap.size, k + n, none⟩) (Nat.le_refl _) (.int .u64 c))
      have HW4 := hid (hwz'.set (k + n) hc)
      have HL4 : Hid ((zs'.set (k + n) c).length = n + m) := by unfold Hid; rw [List.length_set, hzl]; exact HL.out
      have HD4 : Hid ((zs'.set (k + n) c).drop (k + 1 + n) = List.replicate (m - (k + 1)) 0) := by
        unfold Hid
        rw [show k + 1 + n = k + n + 1 by omega, drop_set_lt _ (by omega), zeros_tail D3]
        congr 1
        omega
      generalize zs'[k + n] = z at *
      generalize zs'.set (k + n) c = zs'' at *
      clear hd D3 hr4 hr3 hb3 hv hzl hwz' HST HA hr hb HV HD HD2 hwz HL
      go_wp2
      go_roundw
      case rel => exact ⟨k + 1, zs'', by omega, by go_num, HL4, HW4.out, HV4, HD4, (by simpa using HR4.out), HB4.out⟩
      case measure => simp [intOf]; omega
    · obtain rfl : k = m := by omega
      rw [HTL.out] at HV
      go_wp2_with fail
      have hsl := Row.sl (r := []) (by simpa using hr) hwz (cap := n + k) (by rw [HL.out]; exact Nat.le_refl _) (by omega) hr.lt
      rw [HL.out] at hsl
      refine (trimmed_any hsl).mono ?_
      rintro e w3 ⟨rfl, rfl⟩
      go_wp2
      go_ret
      exact ⟨lst zs, _, rfl, trim_mine (Nat.le_refl _) hwz (by rw [HL.out]; omega) hr, canon_lst hwz, by rw [val_lst]; exact HV.out, hb⟩
end Go.Proofs.YtdfnehngffajiabDoor
