/-
  QRq8ToMWord: Rq8, Cf8, ZMet, MWord, joined.
-/
import Derived.Test.YtaoammmnpfbdfaaQWords
import Derived.Test.YtaoammmnpfbdfaaQLess6
import Derived.Test.YtaoammmnpfbdfaaQZStoreToCells6
import Derived.Test.YtaoammmnpfbdfaaQZModToZDivs
import Derived.Deep.Cut
import Derived.Test.YtaoammmnpfbdfaaQMulAll

/- Rq8 -/
namespace Go.Proofs.Ytaoammmnpfbdfaa
set_option linter.unusedVariables false

theorem divInt_parts {N D : Int} (hD : D ≠ 0) (hp : 0 < D) : ((Int.gcd N D : Int) ≠ 0 ∧ N.tmod (Int.gcd N D : Int) = 0 ∧ D.tmod (Int.gcd N D : Int) = 0) ∧ N.tdiv (Int.gcd N D : Int) = (Rat.divInt N D).num ∧ D.tdiv (Int.gcd N D : Int) = ((Rat.divInt N D).den : Int) := by
  have g0 : (Int.gcd N D : Int) ≠ 0 := by
    have := Int.gcd_pos_of_ne_zero_right N hD
    omega
  have dN : (Int.gcd N D : Int) ∣ N := Int.gcd_dvd_left ..
  have dD : (Int.gcd N D : Int) ∣ D := Int.gcd_dvd_right ..
  refine ⟨⟨g0, Int.tmod_eq_zero_of_dvd dN, Int.tmod_eq_zero_of_dvd dD⟩, ?_, ?_⟩
  · rw [Rat.num_divInt, Int.sign_eq_one_of_pos hp, Int.one_mul, Int.gcd_comm D N]
    exact Int.tdiv_eq_ediv_of_dvd dN
  · rw [Rat.den_divInt, if_neg hD, Int.gcd_comm D N, Int.tdiv_eq_ediv_of_dvd dD]
    push_cast
    rw [Int.natAbs_of_nonneg (Int.le_of_lt hp)]
theorem divInt_parts_neg {N D : Int} (hp : D < 0) : (-(Int.gcd N D : Int) ≠ 0 ∧ N.tmod (-(Int.gcd N D : Int)) = 0 ∧ D.tmod (-(Int.gcd N D : Int)) = 0) ∧ N.tdiv (-(Int.gcd N D : Int)) = (Rat.divInt N D).num ∧ D.tdiv (-(Int.gcd N D : Int)) = ((Rat.divInt N D).den : Int) := by
  have hD : D ≠ 0 := by omega
  have g0 : (Int.gcd N D : Int) ≠ 0 := by
    have := Int.gcd_pos_of_ne_zero_right N hD
    omega
  have dN : (Int.gcd N D : Int) ∣ N := Int.gcd_dvd_left ..
  have dD : (Int.gcd N D : Int) ∣ D := Int.gcd_dvd_right ..
  have dN' : -(Int.gcd N D : Int) ∣ N := Int.neg_dvd.2 dN
  have dD' : -(Int.gcd N D : Int) ∣ D := Int.neg_dvd.2 dD
  refine ⟨⟨by omega, Int.tmod_eq_zero_of_dvd dN', Int.tmod_eq_zero_of_dvd dD'⟩, ?_, ?_⟩
  · rw [Rat.num_divInt, Int.sign_eq_neg_one_of_neg hp, Int.gcd_comm D N, Int.tdiv_neg, Int.tdiv_eq_ediv_of_dvd dN]
    rw [Int.neg_mul, Int.one_mul]
    exact (Int.neg_ediv_of_dvd dN).symm
  · rw [Rat.den_divInt, if_neg hD, Int.gcd_comm D N, Int.tdiv_neg, Int.tdiv_eq_ediv_of_dvd dD]
    push_cast
    rw [← Int.neg_ediv_of_dvd dD]
    congr 1
    omega
/-- The sum, the product and the quotient as Of is asked for them. -/
theorem add_as {a b : Rat} {N D M E : Int} (hD : D ≠ 0) (hE : E ≠ 0) (ha : a = Rat.divInt N D) (hb : b = Rat.divInt M E) : Rat.divInt (N * E + M * D) (D * E) = a + b := by
  rw [ha, hb, Rat.divInt_add_divInt _ _ hD hE]
theorem sub_as {a b : Rat} {N D M E : Int} (hD : D ≠ 0) (hE : E ≠ 0) (ha : a = Rat.divInt N D) (hb : b = Rat.divInt M E) : Rat.divInt (N * E + -M * D) (D * E) = a - b := by
  rw [ha, hb, Rat.sub_eq_add_neg, Rat.neg_divInt, Rat.divInt_add_divInt _ _ hD hE]
theorem mul_as {a b : Rat} {N D M E : Int} (ha : a = Rat.divInt N D) (hb : b = Rat.divInt M E) : Rat.divInt (N * M) (D * E) = a * b := by
  rw [ha, hb, Rat.divInt_mul_divInt]
theorem div_as {a b : Rat} {N D M E : Int} (ha : a = Rat.divInt N D) (hb : b = Rat.divInt M E) : Rat.divInt (N * E) (D * M) = a / b := by
  rw [ha, hb, Rat.div_def, Rat.inv_divInt, Rat.divInt_mul_divInt]
theorem divInt_zero_iff {N D : Int} (hD : D ≠ 0) : Rat.divInt N D = 0 ↔ N = 0 := by
  rw [show (0 : Rat) = Rat.divInt 0 1 from rfl, Rat.divInt_eq_divInt_iff hD (by decide)]
  omega
end Go.Proofs.Ytaoammmnpfbdfaa

/- Cf8 -/
namespace Go.Proofs.Ytaoammmnpfbdfaa
open Go.RowKit
set_option linter.unusedVariables false

abbrev fzero : Value := .agg #[.bool false, .slice none 0 0, .bool false, .slice none 0 0]
theorem Zm.put4f {B : Nat} {w : World} {v : Value} {z : Int} {k : Nat} (h : Zm B w v z k) {b : Nat} {x0 x1 x2 x3 : Value} (d : Cel w b 26 [x0, x1, x2, x3]) (y0 y1 y2 y3 : Value) : Zm B (put4 w b y0 y1 y2 y3) v z k := by
  have d1 := d.set 0 y0
  have d2 := d1.set 1 y1
  have d3 := d2.set 2 y2
  exact (((h.cel d (by decide)).cel d1 (by decide)).cel d2 (by decide)).cel d3 (by decide)
/-- The result of a call that answers a fraction and an error. -/
theorem fback {f : Func} {s1 s3 : Nat} (hr : f.results = #[ResultVar.cell s1 26, ResultVar.tmp s3]) {W : World} {b : Nat} {x0 x1 x2 x3 e : Value} (h : Cel W b 26 [x0, x1, x2, x3]) (tmps : Array Value) (ht : tmps[s1]? = some (.pointer (some ⟨b, 0, none⟩))) (he : tmps[s3]? = some e) :
    (results f tmps).run Try.prog W = .ok (.tuple #[.agg #[x0, x1, x2, x3], e]) W := by
  simp [results, hr, go_sem, ht, he, h.at (i := 0) rfl, h.at (i := 1) rfl, h.at (i := 2) rfl, h.at (i := 3) rfl]
/-- A fraction in lowest terms, and no error. -/
def GivesF (w : World) (q : Rat) (k : Nat) (e : Ending) (w' : World) : Prop := ∃ r0 r1 r2 r3, e = .returned (.tuple #[.agg #[r0, r1, r2, r3], .int .i64 0]) ∧ Zm w.heap.size w' (.agg #[r0, r1]) q.num k ∧ Zm w.heap.size w' (.agg #[r2, r3]) (q.den : Int) k ∧ Below w.heap.size w w'
/-- The zero value, and an error. -/
def GivesFE (E : Int) (w : World) (e : Ending) (w' : World) : Prop := e = .returned (.tuple #[fzero, .int .i64 E]) ∧ Below w.heap.size w w'
theorem GivesF.more {w w' : World} {q : Rat} {k l : Nat} {e : Ending} (h : GivesF w q k e w') (hl : k ≤ l) : GivesF w q l e w' := by
  obtain ⟨r0, r1, r2, r3, h1, h2, h3, h4⟩ := h
  exact ⟨r0, r1, r2, r3, h1, h2.more hl, h3.more hl, h4⟩
theorem gf_end {w W : World} {b : Nat} {x0 x1 x2 x3 y0 y1 y2 y3 : Value} {q : Rat} {k : Nat} {B B' : Nat} (d : Cel W b 26 [x0, x1, x2, x3]) (h : Zm B W (.agg #[y0, y1]) q.num k) (h' : Zm B' W (.agg #[y2, y3]) (q.den : Int) k) (hW : Below w.heap.size w W) (hb : w.heap.size ≤ b) (hB : w.heap.size ≤ B) (hB' : w.heap.size ≤ B') :
    GivesF w q k (.returned (.tuple #[.agg #[y0, y1, y2, y3], .int .i64 0])) (put4 W b y0 y1 y2 y3) :=
  ⟨y0, y1, y2, y3, rfl, (h.put4f d _ _ _ _).mono hB, (h'.put4f d _ _ _ _).mono hB', (((hW.setCell (p := ⟨b, 0, none⟩) hb _).setCell (p := ⟨b, 1, none⟩) hb _).setCell (p := ⟨b, 2, none⟩) hb _).setCell (p := ⟨b, 3, none⟩) hb _⟩
end Go.Proofs.Ytaoammmnpfbdfaa

/- ZMet -/
namespace Go.Proofs.Ytaoammmnpfbdfaa
open Go.RowKit
set_option linter.unusedVariables false

def MetB (W wx : World) (s1 : Value) (z : Int) (k : Nat) : Prop :=
  ∃ bk n, ∃ x : List Int, ∃ a c, s1 = .pointer (some ⟨bk, 0, none⟩) ∧ Below W.heap.size W wx ∧ W.heap.size ≤ bk ∧ bk < wx.heap.size ∧ Duo wx bk (.bool n) (.slice a x.length c) ∧ Zm W.heap.size wx (.agg #[.bool n, .slice a x.length c]) z k
theorem duo_calls {w0 w' : World} (b : Below (w0.alloc zbox).heap.size (w0.alloc zbox) w') : Duo w' w0.heap.size (.bool false) (.slice none 0 0) := (Duo.new w0 _ _).below b (by simp)
theorem duo_calls_d {w0 w' : World} (b : Below (w0.alloc zbox).drew.heap.size (w0.alloc zbox).drew w') : Duo w' w0.heap.size (.bool false) (.slice none 0 0) := (Duo.new w0 _ _).drew.below b (by simp [World.drew])
theorem metb_set {W w2 : World} {bk B : Nat} {n : Bool} {t : List Int} {a : Option Addr} {c k : Nat} {z : Int} (D : Duo w2 bk (.bool false) (.slice none 0 0)) (M : Zm B w2 (.agg #[.bool n, .slice a t.length c]) z k) (HP : Below W.heap.size W w2) (h1 : W.heap.size ≤ bk) (h2 : W.heap.size ≤ B) :
    MetB W ((w2.setCell ⟨bk, 0, none⟩ (.bool n)).setCell ⟨bk, 1, none⟩ (.slice a t.length c)) (.pointer (some ⟨bk, 0, none⟩)) z k :=
  ⟨bk, n, t, a, c, rfl, bset (bset HP h1) h1, h1, (D.set _ _).blk, D.set _ _, (M.box D _ _).mono h2⟩
theorem metb_new {W w2 : World} {B : Nat} {n : Bool} {t : List Int} {a : Option Addr} {c k : Nat} {z : Int} (M : Zm B w2 (.agg #[.bool n, .slice a t.length c]) z k) (HP : Below W.heap.size W w2) (h2 : W.heap.size ≤ B) :
    MetB W (w2.alloc (duo (.bool n) (.slice a t.length c))) (.pointer (some ⟨w2.heap.size, 0, none⟩)) z k := by
  have k := (Below.refl w2.heap.size w2).alloc (Nat.le_refl _) (duo (.bool n) (.slice a t.length c))
  exact ⟨w2.heap.size, n, t, a, c, rfl, below_step HP k, HP.size, by simp, Duo.new w2 _ _, (M.now k).mono h2⟩
end Go.Proofs.Ytaoammmnpfbdfaa

/- MWord -/
namespace Go.Proofs.Ytaoammmnpfbdfaa
open Go.RowKit
set_option linter.unusedVariables false

theorem word_zero (xs : List Int) (n : Nat) : (List.replicate n (0 : Int)).drop n = [] := by simp
set_option maxHeartbeats 1600000 in
theorem word_any {w : World} {va : Value} {xs : List Int} (ha : Sl w.heap.size w va xs) {W : Int} (hW : IsW W) (hl : xs.length < 35184372088832) :
    Calls Try.prog 99 #[va, .int .u64 W] w (Makes w (val xs * W)) := by
  obtain ⟨a, ca, rfl⟩ : ∃ a ca, va = .slice a xs.length ca := by obtain ⟨_, a, ca, e, _⟩ := ha; exact ⟨a, ca, e⟩
  have HT1 := hid (trimmed_any ha)
  have l1 := wid_le xs
  have SX := hid (ha.taken l1)
  change Hid (Sl w.heap.size w _ (lst xs)) at SX
  have CX := hid (canon_lst ha.1)
  have LX := hid (length_lst xs)
  rw [← val_lst xs]
  generalize lst xs = X at *
  generalize wid xs = n at *
  clear ha
  have HW := hid hW
  go_enter Try.func99, Try.ntmps99
  go_wp2_with fail
  refine HT1.out.mono ?_
  rintro e w1 ⟨rfl, rfl⟩
  clear HT1
  go_wp2_with (at_make; refine wpList_make_words _ rfl _ _ rfl _ _ (n + 1) (n + 1) rfl rfl (by omega) (by omega) (Nat.le_refl _) (by omega) ?_)
  intro w2 hrow hb2 hsz2
  have HA := hid (addTimes_any (o := 0) (len := n + 1) (cap := n + 1) (r := []) (wf_zeros (n + 1)) (by simpa using hrow) (by simp; omega) (SX.out.below hb2 (Nat.le_refl _)) HW.out (by rw [LX.out]; simp) (by rw [LX.out]; omega))
  rw [LX.out] at HA
  have HB2 := hid hb2
  clear hrow hb2 hsz2
  go_wp2_with fail
  refine HA.out.mono ?_
  rintro e w3 ⟨zs', c, rfl, hzl, hwz', hc, hv, hd, hr3, hb3⟩
  rw [Nat.zero_add] at hv hd
  have hzl' : zs'.length = n + 1 := by rw [hzl]; simp
  have D3 : zs'.drop n = List.replicate (0 + 1) 0 := by rw [hd]; simp
  obtain ⟨hk3, hz3⟩ := zeros_head D3
  have c3 : w3.cell? ⟨w1.heap.size, n, none⟩ = some (.int .u64 zs'[n]) := hr3.word hk3
  have cf : w3.frozen? ⟨w1.heap.size, n, none⟩ = false := hr3.frozen _
  have HV4 : Hid (val (zs'.set n c) = val X * W) := by
    unfold Hid
    rw [val_set zs' n c hk3, hz3]
    rw [val_zeros] at hv
    have : pw 0 = 1 := rfl
    rw [this] at hv
    grind
  have HR4 := hid (hr3.setWord hk3 c)
  have HB4 := hid ((HB2.out.trans hb3).setCell (p := ⟨w1.heap.size, n, none⟩) (Nat.le_refl _) (.int .u64 c))
  have HW4 := hid (hwz'.set n hc)
  have HL4 : Hid ((zs'.set n c).length = n + 1) := by unfold Hid; rw [List.length_set, hzl']
  generalize zs'[n] = z at *
  generalize zs'.set n c = zs'' at *
  clear hd D3 hr3 hb3 hv hzl hwz' HA HB2 hzl'
  go_wp2_with fail
  have hr5 : Row (w3.setCell ⟨w1.heap.size, n, none⟩ (.int .u64 c)) w1.heap.size (ws zs'') := by simpa using HR4.out
  have hsl := Row.sl (r := []) (by simpa using hr5) HW4.out (cap := n + 1) (by rw [HL4.out]; exact Nat.le_refl _) (by omega) hr5.lt
  rw [HL4.out] at hsl
  refine (trimmed_any hsl).mono ?_
  rintro e w5 ⟨rfl, rfl⟩
  go_wp2
  go_ret
  exact ⟨lst zs'', _, rfl, trim_mine (Nat.le_refl _) HW4.out (by rw [HL4.out]; omega) hr5, canon_lst HW4.out, by rw [val_lst]; exact HV4.out, HB4.out⟩
end Go.Proofs.Ytaoammmnpfbdfaa
