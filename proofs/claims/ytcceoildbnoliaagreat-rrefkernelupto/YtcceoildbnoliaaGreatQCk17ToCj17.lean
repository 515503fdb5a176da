/-
  QCk17ToCj17: Ck17, Cj17, joined.
-/
import Derived.Test.YtcceoildbnoliaaGreatQFa17ToFb17
import Derived.Test.YtcceoildbnoliaaGreatQJoinToR5Cmp
import Derived.Test.YtcceoildbnoliaaGreatQCc17ToAw17

/- Ck17 -/
namespace Go.Proofs.YtcceoildbnoliaaGreat
open Go.RowKit
set_option linter.unusedVariables false
set_option linter.unusedSimpArgs false

set_option maxHeartbeats 1600000 in
set_option maxRecDepth 100000 in
theorem denoms17 {w : World} {v : Value} {n k : Nat} {P Q : Nat → Int} (hv : Qs w v n P Q k) (hk : k ≤ 1099511627776) : Calls Tryz.prog 34 #[v] w (SaysP w (∀ j, j < n → Q j ≠ 0)) := by
  have HV := hid hv
  have HK := hid hk
  obtain ⟨a0, c0, rfl, hc0, hn, hf0⟩ := hv.form
  have F0 := hid hf0
  have H0 : Hid (IxF w n (fun j => Q j = 0) n (.int .i64 0) w) := ⟨0, rfl, Nat.zero_le _, rfl, fun j hj => by omega, Below.refl _ _⟩
  clear hv hf0
  go_enter Tryz.func34, Tryz.ntmps34
  go_wp2_with fail
  go_loopg [3] n (fun gk s3 wx => IxF w n (fun j => Q j = 0) gk s3 wx)
  case atStart => exact H0.out
  case round =>
    clear H0
    obtain ⟨i, rfl, hi, hg, hz, hb⟩ := hrel
    have HZ := hid hz
    have HG := hid hg
    have G := hid hb
    clear hz hg hb
    by_cases hlt : i < n
    · have hlt' : (i : Int) < (n : Int) := by omega
      obtain ⟨bv, ov, rfl⟩ := F0.out (by omega)
      obtain ⟨n1, a1, l1, c1, n2, a2, l2, c2, e1, e2, e3, e4, zp, zq⟩ := (HV.out.now G.out).at hlt
      have HS := hid (rsign_z zq HK.out)
      have hw := wrapI9 (i := i) (by omega)
      clear zp zq
      go_wp2_with fail
      refine HS.out.mono ?_
      rintro e w1 ⟨rfl, b⟩
      have G1 := hid (below_step G.out b)
      clear b HS G e1 e2 e3 e4
      by_cases hq : Q i = 0
      · have hc : (cmpI (Q i) 0 == 0) = true := by simp [hq, cmpI]
        have FF : Hid (SaysP w (∀ j, j < n → Q j ≠ 0) (.returned (.bool false)) w1) := ⟨_, rfl, ⟨fun q => (Bool.false_ne_true q).elim, fun q => absurd hq (q i hlt)⟩, G1.out⟩
        have hq' : cmpI (Q i) 0 = 0 := by simp [hq, cmpI]
        clear G1 HZ HG
        go_wp2
        go_ret
        exact FF.out
      · have hq' : cmpI (Q i) 0 ≠ 0 := by intro h; have := cmpI_zero17 (Q i); rw [decide_eq_decide] at this; exact hq (this.1 h)
        have hc : (cmpI (Q i) 0 == 0) = false := by simp [hq']
        have HN : Hid (IxF w n (fun j => Q j = 0) (n - (i + 1)) (.int .i64 ((i + 1 : Nat) : Int)) w1) := ⟨i + 1, rfl, by omega, rfl, fun j hj => by
          by_cases q : j < i
          · exact HZ.out j q
          · obtain rfl : j = i := by omega
            exact hq, G1.out⟩
        have HMM : Hid (n - (i + 1) < gk) := by unfold Hid; rw [HG.out]; omega
        clear G1 HZ HG
        go_wp2_with fail
        go_roundg (n - (i + 1))
        case rel => exact HN.out
        case measure => exact HMM.out
    · have hlt' : ¬ (i : Int) < (n : Int) := by omega
      have FF : Hid (SaysP w (∀ j, j < n → Q j ≠ 0) (.returned (.bool true)) wr) := ⟨_, rfl, ⟨fun _ j hj => HZ.out j (by omega), fun _ => rfl⟩, G.out⟩
      clear HZ HG G
      go_wp2
      go_ret
      exact FF.out
set_option maxHeartbeats 1600000 in
set_option maxRecDepth 100000 in
theorem shaped17 {w : World} {r c : Int} {a : Option Addr} {l cap : Nat} : Calls Tryz.prog 33 #[.agg #[.int .i64 r, .int .i64 c, .slice a l cap]] w (SaysP w (Snd r c l)) := by
  obtain ⟨W0, hW⟩ : ∃ W0, w.alloc (.cells #[.int .i64 r, .int .i64 c, .slice a l cap] 24) = W0 := ⟨_, rfl⟩
  obtain ⟨b0, sz0⟩ := alo1 w (.cells #[.int .i64 r, .int .i64 c, .slice a l cap] 24)
  rw [hW] at b0 sz0
  have P1 : Hid (Cel W0 w.heap.size 24 [.int .i64 r, .int .i64 c, .slice a l cap]) := by unfold Hid; rw [← hW]; exact Cel.new w _ _
  have x0 := P1.out.at (i := 0) rfl
  have x1 := P1.out.at (i := 1) rfl
  have x2 := P1.out.at (i := 2) rfl
  rw [← hW] at x0 x1 x2
  have G0 := hid b0
  have EW := hid hW
  clear b0 sz0 hW P1
  by_cases h1 : 0 ≤ r
  rotate_left
  · have FF : Hid (SaysP w (Snd r c l) (.returned (.bool false)) W0) := ⟨false, rfl, ⟨fun q => (Bool.false_ne_true q).elim, fun h => by unfold Snd at h; omega⟩, G0.out⟩
    go_enter Tryz.func33, Tryz.ntmps33
    go_wp2
    rw [EW.out]
    go_ret
    exact FF.out
  by_cases h2 : 0 ≤ c
  rotate_left
  · have FF : Hid (SaysP w (Snd r c l) (.returned (.bool false)) W0) := ⟨false, rfl, ⟨fun q => (Bool.false_ne_true q).elim, fun h => by unfold Snd at h; omega⟩, G0.out⟩
    go_enter Tryz.func33, Tryz.ntmps33
    go_wp2
    rw [EW.out]
    go_ret
    exact FF.out
  by_cases h3 : r ≤ 64
  rotate_left
  · have FF : Hid (SaysP w (Snd r c l) (.returned (.bool false)) W0) := ⟨false, rfl, ⟨fun q => (Bool.false_ne_true q).elim, fun h => by unfold Snd at h; omega⟩, G0.out⟩
    go_enter Tryz.func33, Tryz.ntmps33
    go_wp2
    rw [EW.out]
    go_ret
    exact FF.out
  by_cases h4 : c ≤ 64
  rotate_left
  · have FF : Hid (SaysP w (Snd r c l) (.returned (.bool false)) W0) := ⟨false, rfl, ⟨fun q => (Bool.false_ne_true q).elim, fun h => by unfold Snd at h; omega⟩, G0.out⟩
    go_enter Tryz.func33, Tryz.ntmps33
    go_wp2
    rw [EW.out]
    go_ret
    exact FF.out
  have hb1 : 0 ≤ r * c := Int.mul_nonneg (by omega) (by omega)
  have hb2 : r * c ≤ 64 * 64 := Int.mul_le_mul (by omega) (by omega) (by omega) (by omega)
  have hm : IntKind.i64.wrap (r * c) = r * c := by rw [wrap_is] <;> omega
  obtain ⟨p, hp⟩ : ∃ p, r * c = p := ⟨_, rfl⟩
  have HP := hid hp
  rw [hp] at hm
  have hm2 := hm
  rw [← hp, IntKind.wrap_i64, hp] at hm2
  have FF : Hid (SaysP w (Snd r c l) (.returned (.bool ((l : Int) == p))) W0) := ⟨_, rfl, ⟨fun q => ⟨by omega, by omega, by omega, by omega, by rw [HP.out]; simpa using q⟩, fun q => by have := q.2.2.2.2; rw [HP.out] at this; simpa using this⟩, G0.out⟩
  rw [← hp] at hm hm2 FF
  clear hp HP
  go_enter Tryz.func33, Tryz.ntmps33
  go_wp2
  rw [EW.out]
  go_ret
  exact FF.out
/-- What the reference's Check answers. -/
def ckv (r c : Int) (l : Nat) (Q : Nat → Int) (code : Int) : Prop := (code = 1 ∧ ¬ Snd r c l) ∨ (code = 4 ∧ Snd r c l ∧ ∃ t, t < l ∧ Q t = 0) ∨ (code = 0 ∧ Snd r c l ∧ ∀ t, t < l → Q t ≠ 0)
theorem ckv.same {r c : Int} {l : Nat} {Q : Nat → Int} {x y : Int} (h : ckv r c l Q x) (h' : ckv r c l Q y) : x = y := by
  rcases h with ⟨h1, h2⟩ | ⟨h1, h2, t, ht, h3⟩ | ⟨h1, h2, h3⟩ <;> rcases h' with ⟨k1, k2⟩ | ⟨k1, k2, t', ht', k3⟩ | ⟨k1, k2, k3⟩ <;> first | omega | exact absurd k2 h2 | exact absurd h2 k2 | exact absurd k3 (h3 t' ht') | exact absurd h3 (k3 t ht)
theorem FltIs.ckv {r c : Int} {l : Nat} {Q : Nat → Int} {x : Int} (h : FltIs (¬ Snd r c l) (∃ t, t < l ∧ Q t = 0) true x) : ckv r c l Q x := by
  rcases h with ⟨h1, h2⟩ | ⟨h1, h2, h3⟩ | ⟨h1, h2, h3, h4⟩ | ⟨h1, h2, h3, h4⟩
  · exact .inl ⟨h1, h2⟩
  · cases h3
  · exact .inr (.inl ⟨h1, Classical.byContradiction h2, h4⟩)
  · exact .inr (.inr ⟨h1, Classical.byContradiction h2, fun t ht q => h4 ⟨t, ht, q⟩⟩)
set_option maxHeartbeats 1600000 in
set_option maxRecDepth 100000 in
theorem rcheck17 {w : World} {r c : Int} {a : Option Addr} {l cap k : Nat} {P Q : Nat → Int} (hv : Qs w (.slice a l cap) l P Q k) (hk : k ≤ 1099511627776) : Calls Tryz.prog 9 #[.agg #[.int .i64 r, .int .i64 c, .slice a l cap]] w fun e w' => ∃ code : Int, e = .returned (.int .i64 code) ∧ ckv r c l Q code ∧ Below w.heap.size w w' := by
  obtain ⟨W0, hW⟩ : ∃ W0, w.alloc (.cells #[.int .i64 r, .int .i64 c, .slice a l cap] 24) = W0 := ⟨_, rfl⟩
  obtain ⟨b0, sz0⟩ := alo1 w (.cells #[.int .i64 r, .int .i64 c, .slice a l cap] 24)
  rw [hW] at b0 sz0
  have P1 : Hid (Cel W0 w.heap.size 24 [.int .i64 r, .int .i64 c, .slice a l cap]) := by unfold Hid; rw [← hW]; exact Cel.new w _ _
  have x0 := P1.out.at (i := 0) rfl
  have x1 := P1.out.at (i := 1) rfl
  have x2 := P1.out.at (i := 2) rfl
  rw [← hW] at x0 x1 x2
  have HS := hid (shaped17 (w := W0) (r := r) (c := c) (a := a) (l := l) (cap := cap))
  have HV := hid (hv.now b0)
  have HK := hid hk
  have G0 := hid b0
  have EW := hid hW
  clear b0 sz0 hW hv hk
  go_enter Tryz.func9, Tryz.ntmps9
  go_wp2_with fail
  rw [EW.out]
  refine HS.out.mono ?_
  rintro e w1 ⟨bs, rfl, hbs, b⟩
  have G1 := hid (below_step G0.out b)
  have HBS := hid hbs
  have P2 := hid (P1.out.step b)
  have HD := hid (denoms17 (HV.out.now b) HK.out)
  clear HS b hbs G0 x0 x1 x2 EW P1 HV HK
  cases bs with
  | false =>
    have FF : Hid (∃ code : Int, Ending.returned (.int .i64 1) = .returned (.int .i64 code) ∧ ckv r c l Q code ∧ Below w.heap.size w w1) := ⟨1, rfl, .inl ⟨rfl, fun q => Bool.false_ne_true (HBS.out.2 q)⟩, G1.out⟩
    clear HBS G1 HD P2
    go_wp2
    go_ret
    exact FF.out
  | true =>
    have x2 := P2.out.at (i := 2) rfl
    go_wp2_with fail
    refine HD.out.mono ?_
    rintro e w2 ⟨bd, rfl, hbd, b⟩
    have G2 := hid (below_step G1.out b)
    cases bd with
    | false =>
      have FF : Hid (∃ code : Int, Ending.returned (.int .i64 4) = .returned (.int .i64 code) ∧ ckv r c l Q code ∧ Below w.heap.size w w2) := ⟨4, rfl, .inr (.inl ⟨rfl, HBS.out.1 (by first | trivial | rfl), Classical.byContradiction fun q => Bool.false_ne_true (hbd.2 fun j hj e => q ⟨j, hj, e⟩)⟩), G2.out⟩
      clear HBS G1 HD P2 x2 hbd b G2
      go_wp2
      go_ret
      exact FF.out
    | true =>
      have FF : Hid (∃ code : Int, Ending.returned (.int .i64 0) = .returned (.int .i64 code) ∧ ckv r c l Q code ∧ Below w.heap.size w w2) := ⟨0, rfl, .inr (.inr ⟨rfl, HBS.out.1 (by first | trivial | rfl), hbd.1 rfl⟩), G2.out⟩
      clear HBS G1 HD P2 x2 hbd b G2
      go_wp2
      go_ret
      exact FF.out
end Go.Proofs.YtcceoildbnoliaaGreat

/- Cj17 -/
namespace Go.Proofs.YtcceoildbnoliaaGreat
open Go.RowKit
set_option linter.unusedVariables false

def ln17 (i j0 j : Nat) : Nat := if j < j0 then i + 1 else i
/-- The columns: of each the first entries. -/
def Cls (B : Nat) (gc c i j0 : Nat) (C : Nat → Nat → Nat → Value) (wx : World) : Prop :=
  ∃ vs : List Value, Cel wx gc 22 vs ∧ vs.length = c ∧ (∀ j, j < c → ∃ a cap, vs[j]? = some (.slice a (ln17 i j0 j) cap) ∧ Own4 B wx (.slice a (ln17 i j0 j) cap) (ln17 i j0 j) (C j)) ∧ ∀ (j j' b : Nat) (u u' : Value), vs[j]? = some u → vs[j']? = some u' → u.ownBlock = some b → u'.ownBlock = some b → j = j'
theorem Cls.now {B gc c i j0 : Nat} {C : Nat → Nat → Nat → Value} {w w' : World} (h : Cls B gc c i j0 C w) (hb : Below w.heap.size w w') : Cls B gc c i j0 C w' := by
  obtain ⟨vs, h1, h2, h3, h4⟩ := h
  refine ⟨vs, h1.step hb, h2, fun j hj => ?_, h4⟩
  obtain ⟨a, cap, e1, e2⟩ := h3 j hj
  exact ⟨a, cap, e1, e2.now hb⟩
theorem Cls.start {B gc c : Nat} {w : World} (h : Cel w gc 22 (List.replicate c (.slice none 0 0))) (C : Nat → Nat → Nat → Value) : Cls B gc c 0 0 C w := by
  refine ⟨_, h, by simp, fun j hj => ⟨none, 0, by simp [hj, ln17], by unfold ln17; rw [if_neg (by omega)]; exact Own4.nil _ _ _⟩, fun j j' b u u' hu hu' hb => ?_⟩
  have := (List.getElem?_eq_some_iff.1 hu).2
  rw [List.getElem_replicate] at this
  subst this
  cases hb
theorem Cls.next {B gc c i : Nat} {C : Nat → Nat → Nat → Value} {w : World} (h : Cls B gc c i c C w) : Cls B gc c (i + 1) 0 C w := by
  obtain ⟨vs, h1, h2, h3, h4⟩ := h
  refine ⟨vs, h1, h2, fun j hj => ?_, h4⟩
  obtain ⟨a, cap, e1, e2⟩ := h3 j hj
  have e : ln17 (i + 1) 0 j = ln17 i c j := by unfold ln17; rw [if_neg (by omega), if_pos hj]
  rw [e]
  exact ⟨a, cap, e1, e2⟩
theorem Cls.at {B gc c i j0 : Nat} {C : Nat → Nat → Nat → Value} {w : World} (h : Cls B gc c i j0 C w) (hj : j0 < c) : ∃ a cap, w.cell? ⟨gc, j0, none⟩ = some (.slice a i cap) ∧ w.frozen? ⟨gc, j0, none⟩ = false ∧ Own4 B w (.slice a i cap) i (C j0) := by
  obtain ⟨vs, h1, h2, h3, h4⟩ := h
  obtain ⟨a, cap, e1, e2⟩ := h3 j0 hj
  have e : ln17 i j0 j0 = i := by unfold ln17; rw [if_neg (by omega)]
  rw [e] at e1 e2
  exact ⟨a, cap, h1.at e1, h1.fz j0, e2⟩
def upC (C : Nat → Nat → Nat → Value) (j0 i : Nat) (F : Nat → Value) : Nat → Nat → Nat → Value := fun j => if j = j0 then cat4 i (C j0) (fun _ => F) else C j
/-- One column has got one more. -/
theorem Cls.put {B gc c i j0 g9 l9 cap9 cap : Nat} {a : Option Addr} {C : Nat → Nat → Nat → Value} {F : Nat → Value} {X X' : World} (h : Cls B gc c i j0 C X) (hj : j0 < c) (hc : X.cell? ⟨gc, j0, none⟩ = some (.slice a i cap)) (hl : l9 = i + 1) (hO : Own4 B X' (.slice (some ⟨g9, 0, none⟩) l9 cap9) (i + 1) (cat4 i (C j0) (fun _ => F))) (hg : X.grownBy X' (Value.slice a i cap).ownBlock) (ho : (Value.slice a i cap).ownBlock = some g9 ∨ g9 = X.heap.size) (ht : Ty 47 X X') :
    Cls B gc c i (j0 + 1) (upC C j0 i F) (X'.setCell ⟨gc, j0, none⟩ (.slice (some ⟨g9, 0, none⟩) l9 cap9)) ∧ Ty 22 X' (X'.setCell ⟨gc, j0, none⟩ (.slice (some ⟨g9, 0, none⟩) l9 cap9)) := by
  subst hl
  obtain ⟨vs, h1, h2, h3, h4⟩ := h
  have d1 : Cel X' gc 22 vs := h1.ty13 ht (by decide)
  have ty : Ty 22 X' (X'.setCell ⟨gc, j0, none⟩ (.slice (some ⟨g9, 0, none⟩) (i + 1) cap9)) := Ty.set d1
  obtain ⟨a0, cap0, e1, e2⟩ := h3 j0 hj
  have eu : (Value.slice a0 (ln17 i j0 j0) cap0) = .slice a i cap := by
    have := h1.at e1
    rw [hc] at this
    exact (Option.some.inj this).symm
  rw [eu] at e1 e2
  refine ⟨⟨vs.set j0 (.slice (some ⟨g9, 0, none⟩) (i + 1) cap9), d1.set j0 _, by simpa using h2, fun j hjc => ?_, fun j j' b u u' hu hu' hb hb' => ?_⟩, ty⟩
  · by_cases q : j = j0
    · subst q
      have e : ln17 i (j + 1) j = i + 1 := by unfold ln17; rw [if_pos (by omega)]
      rw [e]
      refine ⟨some ⟨g9, 0, none⟩, cap9, by rw [List.getElem?_set_self (by omega)], ?_⟩
      unfold upC
      rw [if_pos rfl]
      exact hO.ty ty (by decide)
    · obtain ⟨aj, cj, f1, f2⟩ := h3 j hjc
      have e : ln17 i (j0 + 1) j = ln17 i j0 j := by
        unfold ln17
        by_cases p : j < j0
        · rw [if_pos p, if_pos (by omega)]
        · rw [if_neg p, if_neg (by omega)]
      rw [e]
      refine ⟨aj, cj, by rw [List.getElem?_set_ne (by omega)]; exact f1, ?_⟩
      unfold upC
      rw [if_neg q]
      refine Own4.ty (Own4.keep f2 fun b hb => ?_) ty (by decide)
      exact hg.block b (f2.own hb).2.1 fun e' => q (h4 j j0 b _ _ f1 e1 hb e'.symm)
  · by_cases q : j = j0
    · by_cases q' : j' = j0
      · rw [q, q']
      · subst q
        rw [List.getElem?_set_self (by omega), Option.some.injEq] at hu
        rw [List.getElem?_set_ne (by omega)] at hu'
        subst hu
        simp only [Value.ownBlock, Option.some.injEq] at hb
        subst hb
        rcases ho with p | p
        · exact h4 j j' _ _ _ e1 hu' p hb'
        · obtain ⟨aj, cj, f1, f2⟩ := h3 j' (by have := (List.getElem?_eq_some_iff.1 hu').1; omega)
          rw [f1, Option.some.injEq] at hu'
          subst hu'
          have := (f2.own hb').2.1
          omega
    · by_cases q' : j' = j0
      · subst q'
        rw [List.getElem?_set_self (by omega), Option.some.injEq] at hu'
        rw [List.getElem?_set_ne (by omega)] at hu
        subst hu'
        simp only [Value.ownBlock, Option.some.injEq] at hb'
        subst hb'
        rcases ho with p | p
        · exact h4 j j' _ _ _ hu e1 hb p
        · obtain ⟨aj, cj, f1, f2⟩ := h3 j (by have := (List.getElem?_eq_some_iff.1 hu).1; omega)
          rw [f1, Option.some.injEq] at hu
          subst hu
          have := (f2.own hb).2.1
          omega
      · rw [List.getElem?_set_ne (by omega)] at hu hu'
        exact h4 j j' b u u' hu hu' hb hb'
/-- As lists that may be read. -/
theorem Cls.qls {B gc c r k : Nat} {C : Nat → Nat → Nat → Value} {w : World} {P Q : Nat → Nat → Int} (h : Cls B gc c r 0 C w) (hr : r ≤ 1048576) (hz : ∀ j i, j < c → i < r → Zi w (.agg #[C j i 0, C j i 1]) (P j i) k ∧ Zi w (.agg #[C j i 2, C j i 3]) (Q j i) k) : QLs w (.slice (some ⟨gc, 0, none⟩) c c) c r P Q k := by
  obtain ⟨vs, h1, h2, h3, h4⟩ := h
  refine ⟨_, c, rfl, Nat.le_refl _, .inr ⟨gc, 0, rfl, h1.blk, fun j hj => ?_⟩⟩
  obtain ⟨a, cap, e1, e2⟩ := h3 j hj
  have e : ln17 r 0 j = r := by unfold ln17; rw [if_neg (by omega)]
  rw [e] at e1 e2
  rw [Nat.zero_add]
  exact ⟨_, h1.at e1, e2.qs hr fun i hi => hz j i hj hi⟩
theorem upC_zi {C : Nat → Nat → Nat → Value} {F : Nat → Value} {i j0 c : Nat} {Z : Nat → Nat → (Nat → Value) → Prop} (h : ∀ j t, j < c → t < ln17 i j0 j → Z j t (C j t)) (hF : Z j0 i F) : ∀ j t, j < c → t < ln17 i (j0 + 1) j → Z j t (upC C j0 i F j t) := fun j t hj ht => by
  unfold upC
  by_cases q : j = j0
  · subst q
    rw [if_pos rfl]
    unfold cat4
    unfold ln17 at ht
    rw [if_pos (by omega)] at ht
    by_cases p : t < i
    · rw [if_pos p]
      exact h j t hj (by unfold ln17; rw [if_neg (by omega)]; exact p)
    · rw [if_neg p]
      obtain rfl : t = i := by omega
      exact hF
  · rw [if_neg q]
    refine h j t hj ?_
    unfold ln17 at ht ⊢
    by_cases p : j < j0
    · rw [if_pos p]; rw [if_pos (by omega)] at ht; exact ht
    · rw [if_neg p]; rw [if_neg (by omega)] at ht; exact ht
end Go.Proofs.YtcceoildbnoliaaGreat
