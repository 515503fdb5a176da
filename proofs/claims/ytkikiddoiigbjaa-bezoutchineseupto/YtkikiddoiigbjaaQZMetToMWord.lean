/-
  QZMetToMWord: ZMet, MWord, joined.
-/
import Derived.Test.YtkikiddoiigbjaaQZStoreToZFloor
import Derived.Test.YtkikiddoiigbjaaQZModToZDivs
import Derived.Deep.Cut
import Derived.Test.YtkikiddoiigbjaaQMulAllToOnes

/- ZMet -/
namespace Go.Proofs.Ytkikiddoiigbjaa
open Go.RowKit
set_option linter.unusedVariables false

def MetB (W wx : World) (s1 : Value) (z : Int) (k : Nat) : Prop :=
  ∃ bk n, ∃ x : List Int, ∃ a c, s1 = .pointer (some ⟨bk, 0, none⟩) ∧ Below W.heap.size W wx ∧ W.heap.size ≤ bk ∧ bk < wx.heap.size ∧ Duo wx bk (.bool n) (.slice a x.length c) ∧ Zm W.heap.size wx (.agg #[.bool n, .slice a x.length c]) z k
theorem duo_calls {w0 w' : World} (b : Below (w0.alloc zbox).heap.size (w0.alloc zbox) w') : Duo w' w0.heap.size (.bool false) (.slice none 0 0) := (Duo.new w0 _ _).below b (by simp)
theorem duo_calls_d {w0 w' : World} (b : Below (w0.alloc zbox).drew.heap.size (w0.alloc zbox).drew w') : Duo w' w0.heap.size (.bool false) (.slice none 0 0) := (Duo.new w0 _ _).drew.below b (by simp [World.drew])
theorem metb_set {W w2 : World} {bk B : Nat} {n : Bool} {t : List Int} {a : Option Addr} {c k : Nat} {z : Int} (D : Duo w2 bk (.bool false) (.slice none 0 0)) (M : Zm B w2 (.agg #[.bool n, .slice a t.length c]) z k) (HP : Below W.heap.size W w2) (h1 : W.heap.size ≤ bk) (h2 : W.heap.size ≤ B) :
    MetB W ((w2.setCell ⟨bk, 0, none⟩ (.bool n)).setCell ⟨bk, 1, none⟩ (.slice a t.length c)) (.pointer (some ⟨bk, 0, none⟩)) z k :=
  ⟨bk, n, t, a, c, rfl, bset (bset HP h1) h1, h1, (D.set _ _).blk, D.set _ _, (M.box D _ _).mono h2⟩
theorem metb_new {W w2 : World} {B : Nat} {n : Bool} {t : List Int} {a : Option Addr} {c k : Nat} {z : Int} (M : Zm B w2 (.agg #[.bool n, .slice a t.length c]) z k) (HP : Below W.heap.size W w2) (h2 : W.heap.size ≤ B) :
    MetB W (w2.alloc (duo (.bool n) (.slice a t.length c))) (.pointer (some ⟨w2.heap.size, 0, none⟩)) z k := by
  have k := (Below.refl w2.heap.size w2).alloc (Nat.le_refl _) (duo (.bool n) (.slice a t.length c))
  exact ⟨w2.heap.size, n, t, a, c, rfl, below_step HP k, HP.size, by simp, Duo.new w2 _ _, (M.now k).mono h2⟩
end Go.Proofs.Ytkikiddoiigbjaa

/- MWord -/
namespace Go.Proofs.Ytkikiddoiigbjaa
open Go.RowKit
set_option linter.unusedVariables false

theorem word_zero (xs : List Int) (n : Nat) : (List.replicate n (0 : Int)).drop n = [] := by simp
set_option maxHeartbeats 1600000 in
theorem word_any {w : World} {va : Value} {xs : List Int} (ha : Sl w.heap.size w va xs) {W : Int} (hW : IsW W) (hl : xs.length < 35184372088832) :
    Calls Try.prog 92 #[va, .int .u64 W] w (Makes w (val xs * W)) := by
  obtain ⟨a, ca, rfl⟩ : ∃ a ca, va = .slice a xs.length ca := by obtain ⟨_, a, ca, e, _⟩ := ha; exact ⟨a, ca, e⟩
  have HT1 := hid (trimmed_any ha)
  have l1 := wid_le xs
  have SX := hid (ha.taken l1)
  change Hid (Sl w.heap.size w _ (lst xs)) at SX
  have CX := hid (canon_lst ha.1)
  have LX := hid (length_lst xs)
  rw [← val_lst xs]
  generalize lst xs = X at *
  generalize wid xs = n at *
  clear ha
  have HW := hid hW
  go_enter Try.func92, Try.ntmps92
  go_wp2_with fail
  refine HT1.out.mono ?_
  rintro e w1 ⟨rfl, rfl⟩
  clear HT1
  go_wp2_with (at_make; refine wpList_make_words _ rfl _ _ rfl _ _ (n + 1) (n + 1) rfl rfl (by omega) (by omega) (Nat.le_refl _) (by omega) ?_)
  intro w2 hrow hb2 hsz2
  have HA := hid (addTimes_any (o := 0) (len := n + 1) (cap := n + 1) (r := []) (wf_zeros (n + 1)) (by simpa using hrow) (by simp; omega) (SX.out.below hb2 (Nat.le_refl _)) HW.out (by rw [LX.out]; simp) (by rw [LX.out]; omega))
  rw [LX.out] at HA
  have HB2 := hid hb2
  clear hrow hb2 hsz2
  go_wp2_with fail
  refine HA.out.mono ?_
  rintro e w3 ⟨zs', c, rfl, hzl, hwz', hc, hv, hd, hr3, hb3⟩
  rw [Nat.zero_add] at hv hd
  have hzl' : zs'.length = n + 1 := by rw [hzl]; simp
  have D3 : zs'.drop n = List.replicate (0 + 1) 0 := by rw [hd]; simp
  obtain ⟨hk3, hz3⟩ := zeros_head D3
  have c3 : w3.cell? ⟨w1.heap.size, n, none⟩ = some (.int .u64 zs'[n]) := hr3.word hk3
  have cf : w3.frozen? ⟨w1.heap.size, n, none⟩ = false := hr3.frozen _
  have HV4 : Hid (val (zs'.set n c) = val X * W) := by
    unfold Hid
    rw [val_set zs' n c hk3, hz3]
    rw [val_zeros] at hv
    have : pw 0 = 1 := rfl
    rw [this] at hv
    grind
  have HR4 := hid (hr3.setWord hk3 c)
  have HB4 := hid ((HB2.out.trans hb3).setCell (p := ⟨w1.heap.size, n, none⟩) (Nat.le_refl _) (.int .u64 c))
  have HW4 := hid (hwz'.set n hc)
  have HL4 : Hid ((zs'.set n c).length = n + 1) := by unfold Hid; rw [List.length_set, hzl']
  generalize zs'[n] = z at *
  generalize zs'.set n c = zs'' at *
  clear hd D3 hr3 hb3 hv hzl hwz' HA HB2 hzl'
  go_wp2_with fail
  have hr5 : Row (w3.setCell ⟨w1.heap.size, n, none⟩ (.int .u64 c)) w1.heap.size (ws zs'') := by simpa using HR4.out
  have hsl := Row.sl (r := []) (by simpa using hr5) HW4.out (cap := n + 1) (by rw [HL4.out]; exact Nat.le_refl _) (by omega) hr5.lt
  rw [HL4.out] at hsl
  refine (trimmed_any hsl).mono ?_
  rintro e w5 ⟨rfl, rfl⟩
  go_wp2
  go_ret
  exact ⟨lst zs'', _, rfl, trim_mine (Nat.le_refl _) HW4.out (by rw [HL4.out]; omega) hr5, canon_lst HW4.out, by rw [val_lst]; exact HV4.out, HB4.out⟩
end Go.Proofs.Ytkikiddoiigbjaa
