/-
  QTimesToTrim: Times, Trim, joined.
-/
import Derived.Test.YtaflidiokhaljaaDoorQProdToMulw
import Derived.Test.YtaflidiokhaljaaDoorQCarryToMade
import Derived.Test.YtaflidiokhaljaaDoorQSlIntsToRef

/- Times -/
namespace Go.Proofs.YtaflidiokhaljaaDoor
open Go.RowKit
set_option linter.unusedVariables false

theorem drop_set_lt {α : Type} (L : List α) {i n : Nat} (h : i < n) (x : α) : (L.set i x).drop n = L.drop n := by
  rw [List.drop_set, if_pos h]

set_option maxHeartbeats 1600000 in
theorem addTimes_any {g : Nat} {w : World} {u : Value} {zs0 xs : List Int} {r : List Value} {o len cap : Nat} {W : Int} (hz0 : WF zs0) (hrow : Row w g (ws zs0 ++ r)) (hlz : zs0.length ≤ 35184372088832) (hx : Sl g w u xs) (hW : IsW W) (hl : o + xs.length ≤ zs0.length) (hlen : xs.length ≤ len) :
    Calls Tryd.prog 82 #[.slice (some ⟨g, o, none⟩) len cap, u, .int .u64 W] w fun e w' =>
      ∃ zs c, e = .returned (.int .u64 c) ∧ zs.length = zs0.length ∧ WF zs ∧ IsW c ∧ val zs + pw (o + xs.length) * c = val zs0 + pw o * (val xs * W) ∧ zs.drop (o + xs.length) = zs0.drop (o + xs.length) ∧ Row w' g (ws zs ++ r) ∧ Below g w w' := by
  obtain ⟨hwx, a, capx, rfl, hlc, hcm, hm⟩ := hx
  have HV0 : Hid (val zs0 + pw (o + 0) * 0 = val zs0 + pw o * (val (xs.take 0) * W)) := by unfold Hid; simp [val]
  have HTL : Hid (xs.take xs.length = xs) := by unfold Hid; simp
  obtain ⟨m, hmz⟩ : ∃ m, m = zs0.length := ⟨_, rfl⟩
  obtain ⟨n, hnx⟩ : ∃ n, n = xs.length := ⟨_, rfl⟩
  rw [← hmz] at hl hlz
  rw [← hnx] at hl hlc HTL hlen
  rw [← hmz, ← hnx]
  have HM : Hid (m = zs0.length) := hmz
  have HN : Hid (n = xs.length) := hnx
  clear hmz hnx
  have hW' := hW
  unfold IsW wB at hW'
  go_enter Tryd.func82, Tryd.ntmps82
  go_wp2_with fail
  go_loopw [7, 15] (fun c i wr => ∃ (k : Nat) (zs : List Int) (cc : Int), k ≤ n ∧ i = .int .i64 k ∧ c = .int .u64 cc ∧ IsW cc ∧ Hid (zs.length = m) ∧ WF zs ∧ Hid (val zs + pw (o + k) * cc = val zs0 + pw o * (val (xs.take k) * W)) ∧ Hid (zs.drop (o + n) = zs0.drop (o + n)) ∧ Row wr g (ws zs ++ r) ∧ Below g w wr) (fun _ i _ => n - (intOf i).toNat)
  case atStart => exact ⟨0, zs0, 0, Nat.zero_le _, rfl, rfl, by unfold IsW wB; omega, HM.out.symm, hz0, HV0, rfl, hrow, Below.refl _ _⟩
  case round =>
    obtain ⟨k, zs, cc, hk, rfl, rfl, hc, HL, hwz, HV, HD, hr, hb⟩ := hrel
    by_cases hlt : k < n
    · have hk1 : o + k < zs.length := by have := HL.out; omega
      have hk2 : k < xs.length := by have := HN.out; omega
      rcases hm with e | ⟨b, off, rfl, hbg, hcy⟩
      · subst e; simp at hk2
      have c1 : wr.cell? ⟨g, o + k, none⟩ = some (.int .u64 zs[o + k]) := hr.word hk1
      have c2 : wr.cell? ⟨b, off + k, none⟩ = some (.int .u64 xs[k]) := (hb.cell (p := ⟨b, off + k, none⟩) hbg).trans (hcy k hk2)
      have cf : wr.frozen? ⟨g, o + k, none⟩ = false := hr.frozen (o + k)
      obtain ⟨hi, lo, hhi, hlo, hmm, hmul⟩ := mul64_any (hwx.get hk2) hW
      obtain ⟨l1, o1, hl1, ho10, ho11, hs1, hadd1⟩ := add64_run hlo (hwz.get hk1) (Int.le_refl 0) (by omega)
      obtain ⟨l2, o2, hl2, ho20, ho21, hs2, hadd2⟩ := add64_run hl1 hc (Int.le_refl 0) (by omega)
      obtain ⟨hb1, hb2, hsum⟩ := word_step (hwx.get hk2) hW (hwz.get hk1) hc hhi.1 hlo hmm hl1 ho10 hs1 hl2 ho20 hs2
      have HV' : Hid (val (zs.set (o + k) l2) + pw (o + (k + 1)) * (hi + o1 + o2) = val zs0 + pw o * (val (xs.take (k + 1)) * W)) := times_step hk1 rfl hk2 rfl HV.out hsum
      have HD' : Hid ((zs.set (o + k) l2).drop (o + n) = zs0.drop (o + n)) := by unfold Hid; rw [drop_set_lt _ (by omega)]; exact HD.out
      have hwz' : WF (zs.set (o + k) l2) := hwz.set (o + k) hl2
      have HR := hr.setWord hk1 l2
      have HB := hb.setCell (p := ⟨g, o + k, none⟩) (Nat.le_refl _) (.int .u64 l2)
      have hc' : IsW (hi + o1 + o2) := ⟨by have := hhi.1; omega, hb2⟩
      have hi0 := hhi.1
      unfold wB at hb1 hb2
      clear hsum hs1 hs2 hmm hl1 hl2 hlo hhi
      generalize zs[o + k] = x at *
      generalize xs[k] = y at *
      have HL' : Hid ((zs.set (o + k) l2).length = m) := by unfold Hid; rw [List.length_set]; exact HL.out
      generalize zs.set (o + k) l2 = zs' at *
      clear hcy hr hb hwz HV hrow HL HD hc
      go_wp2_with fail
      refine (hmul _).mono ?_
      rintro e w1 ⟨rfl, rfl⟩
      go_wp2
      go_roundw
      case rel => exact ⟨k + 1, zs', hi + o1 + o2, by omega, by go_num, rfl, hc', HL', hwz', HV', HD', HR, HB⟩
      case measure => simp [intOf]; omega
    · obtain rfl : k = n := by omega
      rw [HTL.out] at HV
      go_wp2
      go_ret
      exact ⟨zs, cc, rfl, HL.out, hwz, hc, HV.out, HD.out, hr, hb⟩
end Go.Proofs.YtaflidiokhaljaaDoor

/- Trim -/
namespace Go.Proofs.YtaflidiokhaljaaDoor
open Go.RowKit
set_option linter.unusedVariables false

theorem wid_of_len {xs : List Int} (hw : WF xs) : ∃ b : Nat, bitLen (vn xs) = b ∧ (b + 63) / 64 = wid xs ∧ b ≤ 64 * xs.length := by
  refine ⟨_, rfl, ?_⟩
  by_cases h0 : wid xs = 0
  · rw [wid_zero_vn hw h0, h0]
    exact ⟨rfl, by rw [show bitLen 0 = 0 from rfl]; omega⟩
  · obtain ⟨n, hn⟩ : ∃ n, wid xs = n + 1 := ⟨wid xs - 1, by omega⟩
    obtain ⟨hl, hne⟩ := wid_top hn
    have h1 := bitLen_words hw hn hl
    have h2 := bitLen_small (toNat_lt (hw.get hl))
    have h3 : 0 < bitLen xs[n].toNat := by
      unfold bitLen
      split
      · rename_i e
        have := (hw.get hl).1
        omega
      · omega
    rw [h1, hn]
    exact ⟨by omega, by omega⟩

/-- A slice that a call made itself: nil, or at the head of a row from block B on. -/
def Mine (B : Nat) (w : World) (v : Value) (zs : List Int) : Prop :=
  WF zs ∧ ((v = .slice none 0 0 ∧ zs = []) ∨ ∃ g r cap, B ≤ g ∧ zs.length ≤ 35184372088832 ∧ zs.length ≤ cap ∧ (cap = zs.length ∨ (cap = zs.length + r.length ∧ cap ≤ maxLen)) ∧ v = .slice (some ⟨g, 0, none⟩) zs.length cap ∧ Row w g (ws zs ++ r))
theorem Mine.form {B : Nat} {w : World} {v : Value} {zs : List Int} (h : Mine B w v zs) : ∃ a cap, v = .slice a zs.length cap := by
  obtain ⟨_, ⟨h1, h2⟩ | ⟨g, r, cap, _, _, _, _, h1, _⟩⟩ := h
  · subst h2; exact ⟨none, 0, h1⟩
  · exact ⟨_, _, h1⟩
theorem Mine.sl {B : Nat} {w : World} {v : Value} {zs : List Int} (h : Mine B w v zs) : Sl w.heap.size w v zs := by
  obtain ⟨hw, ⟨h1, h2⟩ | ⟨g, r, cap, h1, h2, h3, h4, h5, h6⟩⟩ := h
  · subst h1 h2; exact Sl.nilAt w
  · subst h5
    exact ⟨hw, _, cap, rfl, h3, h2, .inr ⟨g, 0, rfl, h6.lt, fun j hj => by rw [Nat.zero_add]; exact h6.word hj⟩⟩
theorem Mine.nil (B : Nat) (w : World) : Mine B w (.slice none 0 0) [] := ⟨WF.nil, .inl ⟨rfl, rfl⟩⟩
theorem Mine.mono {B B' : Nat} {w : World} {v : Value} {zs : List Int} (h : Mine B w v zs) (hB : B' ≤ B) : Mine B' w v zs := by
  obtain ⟨hw, h | ⟨g, r, cap, h1, h2⟩⟩ := h
  · exact ⟨hw, .inl h⟩
  · exact ⟨hw, .inr ⟨g, r, cap, by omega, h2⟩⟩
theorem Mine.below {B : Nat} {w w' : World} {v : Value} {zs : List Int} (h : Mine B w v zs) (hb : Below w.heap.size w w') : Mine B w' v zs := by
  obtain ⟨hw, h | ⟨g, r, cap, h1, h2, h3, h4, h5, h6⟩⟩ := h
  · exact ⟨hw, .inl h⟩
  · exact ⟨hw, .inr ⟨g, r, cap, h1, h2, h3, h4, h5, h6.below hb h6.lt⟩⟩

set_option maxHeartbeats 800000 in
theorem trimmed_any {B : Nat} {w : World} {a : Option Addr} {len cap : Nat} {xs : List Int} (h : Sl B w (.slice a len cap) xs) :
    Calls Tryd.prog 69 #[.slice a len cap] w fun e w' => e = .returned (.slice a (wid xs) (wid xs)) ∧ w' = w := by
  have HB := bitLen_any h
  obtain ⟨b, hb1, hb2, hb3⟩ := wid_of_len h.1
  rw [hb1] at HB
  have l1 := wid_le xs
  obtain ⟨hw, a', cap', he, hlc, hcm, hm⟩ := h
  simp only [Value.slice.injEq] at he
  obtain ⟨rfl, rfl, rfl⟩ := he
  clear hm hw hb1
  generalize wid xs = n at *
  generalize xs.length = L at *
  go_enter Tryd.func69, Tryd.ntmps69
  go_wp2_with fail
  refine HB.mono ?_
  rintro e w1 ⟨rfl, rfl⟩
  clear HB
  go_wp2
  go_ret
  exact ⟨by rw [show (b + 64 - 1) / 64 = n by omega]; rfl, rfl⟩
end Go.Proofs.YtaflidiokhaljaaDoor
