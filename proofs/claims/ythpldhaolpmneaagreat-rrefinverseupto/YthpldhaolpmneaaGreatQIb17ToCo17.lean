/-
  QIb17ToCo17: Ib17, Cj17, Co17, joined.
-/
import Derived.Test.YthpldhaolpmneaaGreatQSz17ToAw17
import Derived.Test.YthpldhaolpmneaaGreatQJoinToCk17
import Derived.Test.YthpldhaolpmneaaGreatQCc17ToBu17
import Derived.Test.YthpldhaolpmneaaGreatQDu12ToTailL

/- Ib17 -/
namespace Go.Proofs.YthpldhaolpmneaaGreat
open Go.RowKit
set_option linter.unusedVariables false
set_option linter.unusedSimpArgs false

theorem flt_ckv {r c : Int} {l : Nat} {Q : Nat → Int} {x : Int} (h : FltIs (¬ Snd r c l) (∃ t, t < l ∧ Q t = 0) (decide (r = c)) x) : (r ≠ c ∧ x ≠ 1 ∧ x = 2) ∨ ((r = c ∨ (r ≠ c ∧ x = 1)) ∧ ckv r c l Q x) := by
  by_cases e : r = c
  · rw [decide_eq_true e] at h
    exact .inr ⟨.inl e, h.ckv⟩
  · rw [decide_eq_false e] at h
    rcases h with ⟨h1, h2⟩ | ⟨h1, h2, h3⟩ | ⟨h1, h2, h3, h4⟩ | ⟨h1, h2, h3, h4⟩
    · exact .inr ⟨.inr ⟨e, h1⟩, .inl ⟨h1, h2⟩⟩
    · exact .inl ⟨e, by omega, h1⟩
    · cases h3
    · cases h3
set_option maxHeartbeats 3200000 in
set_option maxRecDepth 100000 in
theorem rinv_bad {w : World} {r c : Int} {a : Option Addr} {l cap k : Nat} {P Q : Nat → Int} (hv : Qs w (.slice a l cap) l P Q k) (hk : k ≤ 1048576) (hb : ¬ Snd r c l ∨ r ≠ c ∨ ∃ t, t < l ∧ Q t = 0) :
    Calls Tryz.prog 6 #[.agg #[.int .i64 r, .int .i64 c, .slice a l cap]] w fun e w' => e = .returned (.bool true) ∧ Below w.heap.size w w' := by
  obtain ⟨W0, hW⟩ : ∃ W0, w.alloc (.cells #[.int .i64 r, .int .i64 c, .slice a l cap] 24) = W0 := ⟨_, rfl⟩
  obtain ⟨b0, sz0⟩ := alo1 w (.cells #[.int .i64 r, .int .i64 c, .slice a l cap] 24)
  rw [hW] at b0 sz0
  have CQ : Hid (Cel W0 w.heap.size 24 [.int .i64 r, .int .i64 c, .slice a l cap]) := by unfold Hid; rw [← hW]; exact Cel.new w _ _
  have HA := hid (awake17 (w := W0))
  have HV := hid (hv.now b0)
  have HB : Hid (¬ Snd r c l ∨ r ≠ c ∨ ∃ t, t < l ∧ Q t = 0) := hb
  have G := hid b0
  have EW := hid hW
  clear b0 sz0 hW hv hb
  go_enter Tryz.func6, Tryz.ntmps6
  go_wp2_with fail
  rw [EW.out]
  refine HA.out.mono ?_
  rintro e w1 ⟨rfl, b⟩
  replace CQ := hid (CQ.out.step b)
  replace HV := hid (HV.out.now b)
  replace G := hid (below_step G.out b)
  have x0 := CQ.out.at (i := 0) rfl
  have x1 := CQ.out.at (i := 1) rfl
  have x2 := CQ.out.at (i := 2) rfl
  have HI := hid (inverse_bad HV.out HB.out)
  clear HA EW b HB
  go_wp2_with fail
  refine HI.out.mono ?_
  rintro e w2 ⟨code, rfl, hc0, hco, b⟩
  replace CQ := hid (CQ.out.step b)
  replace HV := hid (HV.out.now b)
  replace G := hid (below_step G.out b)
  obtain ⟨V, hV⟩ : ∃ V, w2.alloc (.cells #[.int .i64 0, .int .i64 0, .slice none 0 0] 24) = V := ⟨_, rfl⟩
  obtain ⟨bv, szv⟩ := alo1 w2 (.cells #[.int .i64 0, .int .i64 0, .slice none 0 0] 24)
  rw [hV] at bv szv
  replace CQ := hid (CQ.out.step bv)
  replace HV := hid (HV.out.now bv)
  replace G := hid (below_step G.out bv)
  have EV := hid hV
  clear x0 x1 x2 HI b bv szv
  have x0 := CQ.out.at (i := 0) rfl
  have x1 := CQ.out.at (i := 1) rfl
  have x2 := CQ.out.at (i := 2) rfl
  rw [← hV] at x0 x1 x2
  clear hV
  rcases flt_ckv hco with ⟨h1, h2, rfl⟩ | ⟨h1, h2⟩
  · have q1 : (r != c) = true := by simp [h1]
    clear hco h2 CQ HV
    go_wp2
    rw [EV.out]
    go_ret
    exact ⟨rfl, G.out⟩
  · have HC := hid (rcheck17 (r := r) (c := c) HV.out (by omega))
    have H2 := hid h2
    have H0 := hid hc0
    rcases h1 with rfl | ⟨hrc, rfl⟩
    · have q1 : (r != r) = false := by simp
      clear hco h2 hc0
      go_wp2_with fail
      rw [EV.out]
      refine HC.out.mono ?_
      rintro e w3 ⟨code', rfl, hk', b⟩
      obtain rfl := ckv.same hk' H2.out
      have HC2 := hid (rcheck17 (r := r) (c := r) (HV.out.now b) (by omega))
      have n0 : ¬ code' = 0 := H0.out
      have q2 : (code' != 0) = true := by simp [n0]
      replace CQ := hid (CQ.out.step b)
      replace G := hid (below_step G.out b)
      clear HC b x0 x1 x2 EV HV hk'
      have x0 := CQ.out.at (i := 0) rfl
      have x1 := CQ.out.at (i := 1) rfl
      have x2 := CQ.out.at (i := 2) rfl
      go_wp2_with fail
      refine HC2.out.mono ?_
      rintro e w4 ⟨code'', rfl, hk', b⟩
      obtain rfl := ckv.same hk' H2.out
      replace G := hid (below_step G.out b)
      have q3 : (code'' == code'') = true := by simp
      clear HC2 b x0 x1 x2 hk' CQ q2 n0 H2 H0
      go_wp2
      go_ret
      exact ⟨rfl, G.out⟩
    · have q1 : (r != c) = true := by simp [hrc]
      clear hco h2 hc0
      go_wp2_with fail
      rw [EV.out]
      refine HC.out.mono ?_
      rintro e w3 ⟨code', rfl, hk', b⟩
      obtain rfl := ckv.same hk' H2.out
      have HC2 := hid (rcheck17 (r := r) (c := c) (HV.out.now b) (by omega))
      replace CQ := hid (CQ.out.step b)
      replace G := hid (below_step G.out b)
      clear HC b x0 x1 x2 EV HV hk'
      have x0 := CQ.out.at (i := 0) rfl
      have x1 := CQ.out.at (i := 1) rfl
      have x2 := CQ.out.at (i := 2) rfl
      go_wp2_with fail
      refine HC2.out.mono ?_
      rintro e w4 ⟨code'', rfl, hk', b⟩
      obtain rfl := ckv.same hk' H2.out
      replace G := hid (below_step G.out b)
      clear HC2 b x0 x1 x2 hk' CQ H2 H0
      go_wp2
      go_ret
      exact ⟨rfl, G.out⟩
end Go.Proofs.YthpldhaolpmneaaGreat

/- Cj17 -/
namespace Go.Proofs.YthpldhaolpmneaaGreat
open Go.RowKit
set_option linter.unusedVariables false

def ln17 (i j0 j : Nat) : Nat := if j < j0 then i + 1 else i
/-- The columns: of each the first entries. -/
def Cls (B : Nat) (gc c i j0 : Nat) (C : Nat → Nat → Nat → Value) (wx : World) : Prop :=
  ∃ vs : List Value, Cel wx gc 22 vs ∧ vs.length = c ∧ (∀ j, j < c → ∃ a cap, vs[j]? = some (.slice a (ln17 i j0 j) cap) ∧ Own4 B wx (.slice a (ln17 i j0 j) cap) (ln17 i j0 j) (C j)) ∧ ∀ (j j' b : Nat) (u u' : Value), vs[j]? = some u → vs[j']? = some u' → u.ownBlock = some b → u'.ownBlock = some b → j = j'
theorem Cls.now {B gc c i j0 : Nat} {C : Nat → Nat → Nat → Value} {w w' : World} (h : Cls B gc c i j0 C w) (hb : Below w.heap.size w w') : Cls B gc c i j0 C w' := by
  obtain ⟨vs, h1, h2, h3, h4⟩ := h
  refine ⟨vs, h1.step hb, h2, fun j hj => ?_, h4⟩
  obtain ⟨a, cap, e1, e2⟩ := h3 j hj
  exact ⟨a, cap, e1, e2.now hb⟩
theorem Cls.start {B gc c : Nat} {w : World} (h : Cel w gc 22 (List.replicate c (.slice none 0 0))) (C : Nat → Nat → Nat → Value) : Cls B gc c 0 0 C w := by
  refine ⟨_, h, by simp, fun j hj => ⟨none, 0, by simp [hj, ln17], by unfold ln17; rw [if_neg (by omega)]; exact Own4.nil _ _ _⟩, fun j j' b u u' hu hu' hb => ?_⟩
  have := (List.getElem?_eq_some_iff.1 hu).2
  rw [List.getElem_replicate] at this
  subst this
  cases hb
theorem Cls.next {B gc c i : Nat} {C : Nat → Nat → Nat → Value} {w : World} (h : Cls B gc c i c C w) : Cls B gc c (i + 1) 0 C w := by
  obtain ⟨vs, h1, h2, h3, h4⟩ := h
  refine ⟨vs, h1, h2, fun j hj => ?_, h4⟩
  obtain ⟨a, cap, e1, e2⟩ := h3 j hj
  have e : ln17 (i + 1) 0 j = ln17 i c j := by unfold ln17; rw [if_neg (by omega), if_pos hj]
  rw [e]
  exact ⟨a, cap, e1, e2⟩
theorem Cls.at {B gc c i j0 : Nat} {C : Nat → Nat → Nat → Value} {w : World} (h : Cls B gc c i j0 C w) (hj : j0 < c) : ∃ a cap, w.cell? ⟨gc, j0, none⟩ = some (.slice a i cap) ∧ w.frozen? ⟨gc, j0, none⟩ = false ∧ Own4 B w (.slice a i cap) i (C j0) := by
  obtain ⟨vs, h1, h2, h3, h4⟩ := h
  obtain ⟨a, cap, e1, e2⟩ := h3 j0 hj
  have e : ln17 i j0 j0 = i := by unfold ln17; rw [if_neg (by omega)]
  rw [e] at e1 e2
  exact ⟨a, cap, h1.at e1, h1.fz j0, e2⟩
def upC (C : Nat → Nat → Nat → Value) (j0 i : Nat) (F : Nat → Value) : Nat → Nat → Nat → Value := fun j => if j = j0 then cat4 i (C j0) (fun _ => F) else C j
/-- One column has got one more. -/
theorem Cls.put {B gc c i j0 g9 l9 cap9 cap : Nat} {a : Option Addr} {C : Nat → Nat → Nat → Value} {F : Nat → Value} {X X' : World} (h : Cls B gc c i j0 C X) (hj : j0 < c) (hc : X.cell? ⟨gc, j0, none⟩ = some (.slice a i cap)) (hl : l9 = i + 1) (hO : Own4 B X' (.slice (some ⟨g9, 0, none⟩) l9 cap9) (i + 1) (cat4 i (C j0) (fun _ => F))) (hg : X.grownBy X' (Value.slice a i cap).ownBlock) (ho : (Value.slice a i cap).ownBlock = some g9 ∨ g9 = X.heap.size) (ht : Ty 47 X X') :
    Cls B gc c i (j0 + 1) (upC C j0 i F) (X'.setCell ⟨gc, j0, none⟩ (.slice (some ⟨g9, 0, none⟩) l9 cap9)) ∧ Ty 22 X' (X'.setCell ⟨gc, j0, none⟩ (.slice (some ⟨g9, 0, none⟩) l9 cap9)) := by
  subst hl
  obtain ⟨vs, h1, h2, h3, h4⟩ := h
  have d1 : Cel X' gc 22 vs := h1.ty13 ht (by decide)
  have ty : Ty 22 X' (X'.setCell ⟨gc, j0, none⟩ (.slice (some ⟨g9, 0, none⟩) (i + 1) cap9)) := Ty.set d1
  obtain ⟨a0, cap0, e1, e2⟩ := h3 j0 hj
  have eu : (Value.slice a0 (ln17 i j0 j0) cap0) = .slice a i cap := by
    have := h1.at e1
    rw [hc] at this
    exact (Option.some.inj this).symm
  rw [eu] at e1 e2
  refine ⟨⟨vs.set j0 (.slice (some ⟨g9, 0, none⟩) (i + 1) cap9), d1.set j0 _, by simpa using h2, fun j hjc => ?_, fun j j' b u u' hu hu' hb hb' => ?_⟩, ty⟩
  · by_cases q : j = j0
    · subst q
      have e : ln17 i (j + 1) j = i + 1 := by unfold ln17; rw [if_pos (by omega)]
      rw [e]
      refine ⟨some ⟨g9, 0, none⟩, cap9, by rw [List.getElem?_set_self (by omega)], ?_⟩
      unfold upC
      rw [if_pos rfl]
      exact hO.ty ty (by decide)
    · obtain ⟨aj, cj, f1, f2⟩ := h3 j hjc
      have e : ln17 i (j0 + 1) j = ln17 i j0 j := by
        unfold ln17
        by_cases p : j < j0
        · rw [if_pos p, if_pos (by omega)]
        · rw [if_neg p, if_neg (by omega)]
      rw [e]
      refine ⟨aj, cj, by rw [List.getElem?_set_ne (by omega)]; exact f1, ?_⟩
      unfold upC
      rw [if_neg q]
      refine Own4.ty (Own4.keep f2 fun b hb => ?_) ty (by decide)
      exact hg.block b (f2.own hb).2.1 fun e' => q (h4 j j0 b _ _ f1 e1 hb e'.symm)
  · by_cases q : j = j0
    · by_cases q' : j' = j0
      · rw [q, q']
      · subst q
        rw [List.getElem?_set_self (by omega), Option.some.injEq] at hu
        rw [List.getElem?_set_ne (by omega)] at hu'
        subst hu
        simp only [Value.ownBlock, Option.some.injEq] at hb
        subst hb
        rcases ho with p | p
        · exact h4 j j' _ _ _ e1 hu' p hb'
        · obtain ⟨aj, cj, f1, f2⟩ := h3 j' (by have := (List.getElem?_eq_some_iff.1 hu').1; omega)
          rw [f1, Option.some.injEq] at hu'
          subst hu'
          have := (f2.own hb').2.1
          omega
    · by_cases q' : j' = j0
      · subst q'
        rw [List.getElem?_set_self (by omega), Option.some.injEq] at hu'
        rw [List.getElem?_set_ne (by omega)] at hu
        subst hu'
        simp only [Value.ownBlock, Option.some.injEq] at hb'
        subst hb'
        rcases ho with p | p
        · exact h4 j j' _ _ _ hu e1 hb p
        · obtain ⟨aj, cj, f1, f2⟩ := h3 j (by have := (List.getElem?_eq_some_iff.1 hu).1; omega)
          rw [f1, Option.some.injEq] at hu
          subst hu
          have := (f2.own hb).2.1
          omega
      · rw [List.getElem?_set_ne (by omega)] at hu hu'
        exact h4 j j' b u u' hu hu' hb hb'
/-- As lists that may be read. -/
theorem Cls.qls {B gc c r k : Nat} {C : Nat → Nat → Nat → Value} {w : World} {P Q : Nat → Nat → Int} (h : Cls B gc c r 0 C w) (hr : r ≤ 1048576) (hz : ∀ j i, j < c → i < r → Zi w (.agg #[C j i 0, C j i 1]) (P j i) k ∧ Zi w (.agg #[C j i 2, C j i 3]) (Q j i) k) : QLs w (.slice (some ⟨gc, 0, none⟩) c c) c r P Q k := by
  obtain ⟨vs, h1, h2, h3, h4⟩ := h
  refine ⟨_, c, rfl, Nat.le_refl _, .inr ⟨gc, 0, rfl, h1.blk, fun j hj => ?_⟩⟩
  obtain ⟨a, cap, e1, e2⟩ := h3 j hj
  have e : ln17 r 0 j = r := by unfold ln17; rw [if_neg (by omega)]
  rw [e] at e1 e2
  rw [Nat.zero_add]
  exact ⟨_, h1.at e1, e2.qs hr fun i hi => hz j i hj hi⟩
theorem upC_zi {C : Nat → Nat → Nat → Value} {F : Nat → Value} {i j0 c : Nat} {Z : Nat → Nat → (Nat → Value) → Prop} (h : ∀ j t, j < c → t < ln17 i j0 j → Z j t (C j t)) (hF : Z j0 i F) : ∀ j t, j < c → t < ln17 i (j0 + 1) j → Z j t (upC C j0 i F j t) := fun j t hj ht => by
  unfold upC
  by_cases q : j = j0
  · subst q
    rw [if_pos rfl]
    unfold cat4
    unfold ln17 at ht
    rw [if_pos (by omega)] at ht
    by_cases p : t < i
    · rw [if_pos p]
      exact h j t hj (by unfold ln17; rw [if_neg (by omega)]; exact p)
    · rw [if_neg p]
      obtain rfl : t = i := by omega
      exact hF
  · rw [if_neg q]
    refine h j t hj ?_
    unfold ln17 at ht ⊢
    by_cases p : j < j0
    · rw [if_pos p]; rw [if_pos (by omega)] at ht; exact ht
    · rw [if_neg p]; rw [if_neg (by omega)] at ht; exact ht
end Go.Proofs.YthpldhaolpmneaaGreat

/- Co17 -/
namespace Go.Proofs.YthpldhaolpmneaaGreat
open Go.RowKit
set_option linter.unusedVariables false
set_option linter.unusedSimpArgs false

/-- The columns' numbers. -/
def clP (c : Nat) (P : Nat → Int) (j i : Nat) : Int := P (i * c + j)
structure CoJ (w : World) (bq gc gr r c : Nat) (a : Option Addr) (l cap : Nat) (P Q : Nat → Int) (k i j0 : Nat) (C : Nat → Nat → Nat → Value) (wx : World) : Prop where
  q : Cel wx bq 24 [.int .i64 (r : Int), .int .i64 (c : Int), .slice a l cap]
  f : FilS wx gr r r (fun j u => Qs w u c (rwP c P j) (rwP c Q j) k)
  s : Cls w.heap.size gc c i j0 C wx
  z : ∀ j t, j < c → t < ln17 i j0 j → Zi w (.agg #[C j t 0, C j t 1]) (clP c P j t) k ∧ Zi w (.agg #[C j t 2, C j t 3]) (clP c Q j t) k
  b : Below w.heap.size w wx
theorem CoJ.now {w : World} {bq gc gr r c : Nat} {a : Option Addr} {l cap : Nat} {P Q : Nat → Int} {k i j0 : Nat} {C : Nat → Nat → Nat → Value} {wx wy : World} (h : CoJ w bq gc gr r c a l cap P Q k i j0 C wx) (hb : Below wx.heap.size wx wy) : CoJ w bq gc gr r c a l cap P Q k i j0 C wy :=
  ⟨h.q.step hb, h.f.step hb fun _ _ _ q => q, h.s.now hb, h.z, below_step h.b hb⟩
def CoD (w : World) (r c : Nat) (P Q : Nat → Int) (k : Nat) (e : Ending) (w' : World) : Prop := ∃ v, e = .returned v ∧ QLs w' v c r (clP c P) (clP c Q) k ∧ Below w.heap.size w w'
set_option maxHeartbeats 6400000 in
set_option maxRecDepth 100000 in
theorem columnsOf17 {w : World} {a : Option Addr} {l cap r c k : Nat} {P Q : Nat → Int} (hv : Qs w (.slice a l cap) l P Q k) (hl : l = r * c) (hr : r ≤ 64) (hc : c ≤ 64) :
    Calls Tryz.prog 50 #[qmv r c (.slice a l cap)] w (CoD w r c P Q k) := by
  have HRO : Hid (∀ w', Calls Tryz.prog 30 #[.agg #[.int .i64 (r : Int), .int .i64 (c : Int), .slice a l cap]] w' (Rod w w' r c P Q k)) := fun w' => rowsOf17 hv hl hr hc
  obtain ⟨W0, hW⟩ : ∃ W0, w.alloc (.cells #[.int .i64 (r : Int), .int .i64 (c : Int), .slice a l cap] 24) = W0 := ⟨_, rfl⟩
  obtain ⟨b0, sz0⟩ := alo1 w (.cells #[.int .i64 (r : Int), .int .i64 (c : Int), .slice a l cap] 24)
  rw [hW] at b0 sz0
  have CQ : Hid (Cel W0 w.heap.size 24 [.int .i64 (r : Int), .int .i64 (c : Int), .slice a l cap]) := by unfold Hid; rw [← hW]; exact Cel.new w _ _
  have c1 := CQ.out.at (i := 1) rfl
  rw [← hW] at c1
  have B0 := hid b0
  have EW := hid hW
  have SZ := hid sz0
  clear hv hl b0 sz0 hW
  show Calls Tryz.prog 50 #[.agg #[.int .i64 (r : Int), .int .i64 (c : Int), .slice a l cap]] w _
  go_enter Tryz.func50, Tryz.ntmps50
  go_wp2_with (at_make; rw [EW.out]; refine wpList_make_rows17 _ rfl _ _ rfl _ _ c c rfl rfl rfl rfl (Nat.le_refl _) (by omega) ?_)
  intro w1 hrow hb1 hsz1
  have CQ1 := hid (CQ.out.step hb1.out)
  have G1 := hid (below_step B0.out hb1.out)
  have HRW := hid (HRO.out w1)
  have HGC : Hid (w.heap.size < W0.heap.size) := by unfold Hid; rw [SZ.out]; omega
  have HGC2 : Hid (W0.heap.size < w1.heap.size) := by unfold Hid; rw [hsz1.out]; omega
  have ROW := hrow
  have q0 := CQ1.out.at (i := 0) rfl
  have q1 := CQ1.out.at (i := 1) rfl
  have q2 := CQ1.out.at (i := 2) rfl
  clear hrow hb1 hsz1 CQ B0 EW SZ c1 HRO
  generalize W0.heap.size = gc at *
  go_wp2_with fail
  refine HRW.out.mono ?_
  rintro e w2 ⟨gr, rfl, hgr, hfil, b2⟩
  have HGG : Hid (gc ≠ gr) := by unfold Hid; have := HGC2.out; omega
  obtain ⟨bq, hbq⟩ : ∃ bq, w.heap.size = bq := ⟨_, rfl⟩
  have EQ := hid hbq
  have HBQ : Hid (gc ≠ bq ∧ w.heap.size ≤ gc) := by unfold Hid; have := HGC.out; omega
  have H0 : Hid (∃ (i : Nat) (C : Nat → Nat → Nat → Value), Value.int .i64 0 = .int .i64 (i : Int) ∧ i ≤ r ∧ r = r - i ∧ CoJ w bq gc gr r c a l cap P Q k i 0 C w2) := ⟨0, fun _ _ _ => .bool false, rfl, Nat.zero_le _, rfl, ⟨by rw [← hbq]; exact CQ1.out.step b2, hfil, Cls.start (ROW.out.step b2) _, fun j t hj ht => by unfold ln17 at ht; rw [if_neg (by omega)] at ht; omega, below_step G1.out b2⟩⟩
  clear HRW hgr hfil b2 CQ1 G1 ROW q0 q1 q2 HGC HGC2 hbq
  go_wp2_with fail
  rw [EQ.out]
  go_loopg [14] r (fun gk s14 wx => ∃ (i : Nat) (C : Nat → Nat → Nat → Value), s14 = .int .i64 (i : Int) ∧ i ≤ r ∧ gk = r - i ∧ CoJ w bq gc gr r c a l cap P Q k i 0 C wx)
  case atStart => exact H0.out
  case round =>
    clear H0
    obtain ⟨i, C, rfl, hir, hgk, hJ⟩ := hrel
    have J := hid hJ
    have HG := hid hgk
    clear hJ hgk
    by_cases hlt : i < r
    · have hlt' : (i : Int) < (r : Int) := by omega
      have hwi := wrapI9 (i := i) (by omega)
      obtain ⟨ra, rl, rc, k0, -, hqs⟩ := J.out.f.cells hlt
      have hq := hqs hlt
      obtain ⟨ra', rc', he, -, -, hra⟩ := hq.form
      simp only [Value.slice.injEq] at he
      obtain ⟨he1, he2, he3⟩ := he
      subst he1
      subst he3
      subst he2
      have HQ := hid hq
      have HRA := hid hra
      have HMO : Hid (r - (i + 1) < gk) := by unfold Hid; rw [HG.out]; omega
      have HI : Hid (∃ (j : Nat) (C : Nat → Nat → Nat → Value), Value.int .i64 0 = .int .i64 (j : Int) ∧ j ≤ rl ∧ rl = rl - j ∧ CoJ w bq gc gr r rl a l cap P Q k i j C wr) := ⟨0, C, rfl, Nat.zero_le _, rfl, J.out⟩
      clear hqs hq hra HG
      go_wp2_with fail
      clear k0
      go_loopg [20] rl (fun gk s20 wx => ∃ (j : Nat) (C : Nat → Nat → Nat → Value), s20 = .int .i64 (j : Int) ∧ j ≤ rl ∧ gk = rl - j ∧ CoJ w bq gc gr r rl a l cap P Q k i j C wx)
      case atStart => exact HI.out
      case round =>
        clear HI J
        obtain ⟨j, C, rfl, hjc, hgk, hJ⟩ := hrel
        have J := hid hJ
        have HG := hid hgk
        clear hJ hgk
        by_cases hlt2 : j < rl
        · have hlt2' : (j : Int) < (rl : Int) := by omega
          have hwj := wrapI9 (i := j) (by omega)
          obtain ⟨rb, ro, rfl⟩ := HRA.out (by omega)
          obtain ⟨n1, a1, l1, c1, n2, a2, l2, c2, e1, e2, e3, e4, -, -⟩ := (HQ.out.now J.out.b).at hlt2
          obtain ⟨m1, d1, f1, g1, m2, d2, f2, g2, h1, h2, h3, h4, hzp, hzq⟩ := HQ.out.at hlt2
          have q1 := (cnow J.out.b h1).symm.trans e1
          have q2 := (cnow J.out.b h2).symm.trans e2
          have q3 := (cnow J.out.b h3).symm.trans e3
          have q4 := (cnow J.out.b h4).symm.trans e4
          simp only [Option.some.injEq] at q1 q2 q3 q4
          rw [q1, q2] at hzp
          rw [q3, q4] at hzq
          have ZP := hid hzp
          have ZQ := hid hzq
          have HMM : Hid (rl - (j + 1) < gk) := by unfold Hid; rw [HG.out]; omega
          obtain ⟨V1, hV⟩ : ∃ V1, wr.alloc (.cells #[.bool n1, .slice a1 l1 c1, .bool n2, .slice a2 l2 c2] 47) = V1 := ⟨_, rfl⟩
          obtain ⟨b, sz1⟩ := alo1 wr (.cells #[.bool n1, .slice a1 l1 c1, .bool n2, .slice a2 l2 c2] 47)
          rw [hV] at b sz1
          have DF : Hid (Cel V1 wr.heap.size 47 [.bool n1, .slice a1 l1 c1, .bool n2, .slice a2 l2 c2]) := by unfold Hid; rw [← hV]; exact Cel.new wr _ _
          have J1 := hid (J.out.now b)
          obtain ⟨ca, cc, k0, -, hOc⟩ := J1.out.s.at hlt2
          have OC := hid hOc
          have d0 := DF.out.at (i := 0) rfl
          have dd1 := DF.out.at (i := 1) rfl
          have dd2 := DF.out.at (i := 2) rfl
          have dd3 := DF.out.at (i := 3) rfl
          have EV := hid hV
          have HB1 : Hid (w.heap.size ≤ V1.heap.size) := J1.out.b.size
          have HNB : Hid (∀ bb, (Value.slice ca i cc).ownBlock = some bb → bb ≠ wr.heap.size) := fun bb hb e => by
            obtain ⟨ca', cc', k0', -, hOc'⟩ := J.out.s.at hlt2
            have q := (cnow b k0').symm.trans k0
            simp only [Option.some.injEq] at q
            rw [← q] at hb
            have := (hOc'.own hb).2.1
            omega
          clear h1 h2 h3 h4 q1 q2 q3 q4 hzp hzq hV b sz1 hOc J HG
          go_wp2_with fail
          rw [EV.out]
          clear EV e1 e2 e3 e4
          generalize wr.heap.size = bx at *
          have KB : Hid (∀ w', Below V1.heap.size V1 w' → w'.cell? ⟨gc, j, none⟩ = some (.slice ca i cc) ∧ w'.cell? ⟨bx, 0, none⟩ = some (.bool n1) ∧ w'.cell? ⟨bx, 1, none⟩ = some (.slice a1 l1 c1) ∧ w'.cell? ⟨bx, 2, none⟩ = some (.bool n2) ∧ w'.cell? ⟨bx, 3, none⟩ = some (.slice a2 l2 c2)) := fun w' h => ⟨cnow h k0, cnow h d0, cnow h dd1, cnow h dd2, cnow h dd3⟩
          refine wp_region_tail (fun w' => w'.cell? ⟨gc, j, none⟩ = some (.slice ca i cc) ∧ w'.cell? ⟨bx, 0, none⟩ = some (.bool n1) ∧ w'.cell? ⟨bx, 1, none⟩ = some (.slice a1 l1 c1) ∧ w'.cell? ⟨bx, 2, none⟩ = some (.bool n2) ∧ w'.cell? ⟨bx, 3, none⟩ = some (.slice a2 l2 c2)) 10 (by kernel_rfl) ?_
          obtain ⟨D1, hD⟩ : ∃ D1, V1.drew = D1 := ⟨_, rfl⟩
          have GB : Hid (Below V1.heap.size V1 D1) := by unfold Hid; rw [← hD]; exact (Below.refl _ _).drew
          rw [hD]
          clear hD
          have KC := hid (KB.out _ GB.out)
          refine wpAnyT_list [(0, (.slice (some ⟨gc, 0, none⟩) rl rl)), (1, (.int .i64 (j : Int))), (2, (.slice (some ⟨gc, 0, none⟩) rl rl)), (3, (.int .i64 (j : Int))), (4, (.pointer (some ⟨gc, j, none⟩))), (5, (.slice ca i cc)), (6, (.agg #[.bool n1, .slice a1 l1 c1, .bool n2, .slice a2 l2 c2]))] 7 ?_ (KC.out) ?_
          · simp only [TakesV, gA9, g09, g19, Act.put, sI9, s09, s19]
            (repeat' (first | exact trivial | refine And.intro (Or.inl ⟨by rfl, ?_⟩) ?_)) <;> (intro w hSw; (try dsimp only at hSw); go_simp)
          simp only [actV, gA9, g09, g19, Act.put, sI9, s09, s19]
          refine wpAnyT_one (i := 7) (o := { dst := some 32, op := Op.buildSlice 22 1 #[(0, Operand.tmp 31)], type := 22, pos := "lines.go:91", after := #[{ on := 6, ground := Ground.data }], guard := none }) (by kernel_rfl) rfl (fun K hK => ?_)
          go_simp
          obtain ⟨V52, hW⟩ : ∃ V52, D1.alloc (.cells #[.bool n1, .slice a1 l1 c1, .bool n2, .slice a2 l2 c2] 47) = V52 := ⟨_, rfl⟩
          obtain ⟨b, szz⟩ := alo1 D1 (.cells #[.bool n1, .slice a1 l1 c1, .bool n2, .slice a2 l2 c2] 47)
          rw [hW] at b szz
          replace GB := hid (below_step GB.out b)
          replace KC := hid (KB.out _ GB.out)
          have CX : Hid (Cel V52 D1.heap.size 47 [.bool n1, .slice a1 l1 c1, .bool n2, .slice a2 l2 c2]) := by unfold Hid; rw [← hW]; exact Cel.new D1 _ _
          rw [hW]
          clear hW b szz
          refine hK.out _ _ (fun _ => KC.out) ?_
          clear hK
          try simp only [Act.put]
          refine wpAnyT_one (i := 8) (o := { dst := some 33, op := Op.call { callee := Callee.builtin Builtin.append, args := #[Operand.tmp 30, Operand.tmp 32], argTypes := #[22, 22] }, type := 22, pos := "lines.go:91", after := #[{ on := 5, ground := Ground.data }, { on := 7, ground := Ground.data }], guard := none }) (by kernel_rfl) rfl (fun K hK => ?_)
          have JX := hid (J1.out.now GB.out)
          have OX := hid (OC.out.now GB.out)
          have DX := hid (DF.out.step GB.out)
          have HBX : Hid (w.heap.size ≤ V52.heap.size) := by unfold Hid; have := GB.out.size; have := HB1.out; omega
          obtain ⟨F, hF⟩ : ∃ F : Nat → Value, F = fun r => (#[Value.bool n1, .slice a1 l1 c1, .bool n2, .slice a2 l2 c2] : Array Value).getD r (.bool false) := ⟨_, rfl⟩
          have F0 : F 0 = .bool n1 := by rw [hF]; rfl
          have F1 : F 1 = .slice a1 l1 c1 := by rw [hF]; rfl
          have F2 : F 2 = .bool n2 := by rw [hF]; rfl
          have F3 : F 3 = .slice a2 l2 c2 := by rw [hF]; rfl
          have HFF : Hid (IsQ F ∧ Zi w (.agg #[F 0, F 1]) (rwP rl P i j) k ∧ Zi w (.agg #[F 2, F 3]) (rwP rl Q i j) k) := by
            unfold Hid
            rw [F0, F1, F2, F3]
            exact ⟨⟨n1, a1, l1, c1, n2, a2, l2, c2, F0, F1, F2, F3⟩, ZP.out, ZQ.out⟩
          have HCN : Hid (∀ (t r : Nat), t < 1 → r < 4 → V52.cell? ⟨D1.heap.size, 0 + t * 4 + r, none⟩ = some ((fun _ => F) t r)) := fun t r ht hr => by
            obtain rfl : t = 0 := by omega
            show _ = some (F r)
            match r, hr with
            | 0, _ => rw [F0]; exact CX.out.at (i := 0) rfl
            | 1, _ => rw [F1]; exact CX.out.at (i := 1) rfl
            | 2, _ => rw [F2]; exact CX.out.at (i := 2) rfl
            | 3, _ => rw [F3]; exact CX.out.at (i := 3) rfl
          clear hF F0 F1 F2 F3
          refine step_append_four V52 rfl (.tmp 30) (.tmp 32) rfl w.heap.size i 1 1 D1.heap.size 0 (.slice ca i cc) (C j) (fun _ => F) rfl OX.out rfl HCN.out (fun _ _ => HFF.out.1) (by omega) (by omega) HBX.out ?_
          intro g9 cap9 w53 l9 hl9 hO9 hg9 ho9
          have TG : Hid (Ty 47 V52 w53) := Ty.grown OX.out.1 hg9.out
          have BG : Hid (Below w.heap.size w w53) := Own4.below JX.out.b OX.out hg9.out HBX.out
          have DX2 : Hid (Cel w53 bx 47 [.bool n1, .slice a1 l1 c1, .bool n2, .slice a2 l2 c2]) := by
            unfold Hid Cel
            rw [hg9.out.block bx DX.out.blk fun q => HNB.out bx q.symm rfl]
            exact DX.out
          have KX := KC.out.1
          obtain ⟨vsX, vX1, vX2, vX3, vX4⟩ := JX.out.s
          have CG := hid (vX1.ty13 TG.out (by decide))
          replace KC := hid (⟨(World.cell?_of_block (a := ⟨gc, j, none⟩) (show w53.heap[gc]? = V52.heap[gc]? from (show _ = _ from CG.out).trans (show _ = _ from vX1).symm)).trans KX, DX2.out.at (i := 0) rfl, DX2.out.at (i := 1) rfl, DX2.out.at (i := 2) rfl, DX2.out.at (i := 3) rfl⟩ : _ ∧ _ ∧ _ ∧ _ ∧ _)
          have PUT := hid (fun (hc : V52.cell? ⟨gc, j, none⟩ = some (.slice ca i cc)) => JX.out.s.put hlt2 hc hl9.out hO9.out hg9.out ho9.out TG.out)
          have KX1 := hid KX
          have MQ := hid (JX.out.q.ty13 TG.out (by decide))
          have MF : Hid (FilS w53 gr r r (fun j u => Qs w u rl (rwP rl P j) (rwP rl Q j) k)) := by
            obtain ⟨vs, s1, s2, s3, s4⟩ := JX.out.f
            exact ⟨vs, s1.ty13 TG.out (by decide), s2, s3, s4⟩
          have MZ := hid JX.out.z
          clear hl9 hO9 hg9 ho9 OX DX HBX HCN CX JX KX vX1 vX2 vX3 vX4 DX2
          refine hK.out _ _ (fun _ => KC.out) ?_
          clear hK
          refine wpAnyT_list [(9, (.pointer (some ⟨gc, j, none⟩)))] 1 ?_ (KC.out) ?_
          · simp only [TakesV, gA9, g09, g19, Act.put, sI9, s09, s19]
            (repeat' (first | exact trivial | refine And.intro (Or.inl ⟨by rfl, ?_⟩) ?_)) <;> (intro w hSw; (try dsimp only at hSw); go_simp)
          simp only [actV, gA9, g09, g19, Act.put, sI9, s09, s19]
          refine wpAnyT_one (i := 10) (o := { dst := none, op := Op.store 22 (Operand.tmp 34) (Operand.tmp 33), type := 0, pos := "lines.go:91", after := #[{ on := 9, ground := Ground.data }, { on := 8, ground := Ground.data }, { on := 8, ground := Ground.chain }, { on := 0, ground := Ground.phase }, { on := 1, ground := Ground.phase }, { on := 2, ground := Ground.phase }, { on := 3, ground := Ground.phase }, { on := 4, ground := Ground.phase }, { on := 5, ground := Ground.phase }, { on := 6, ground := Ground.phase }, { on := 7, ground := Ground.phase }, { on := 8, ground := Ground.phase }], guard := none }) (by kernel_rfl) rfl (fun K hK => ?_)
          have h0 := KC.out.1
          have h1 := CG.out.fz j
          go_simp
          clear h0 h1
          obtain ⟨V4, hW⟩ : ∃ V4, (w53.setCell ⟨gc, j, none⟩ (.slice (some ⟨g9, 0, none⟩) l9 cap9)) = V4 := ⟨_, rfl⟩
          have HN1 : Hid (∃ (j' : Nat) (C : Nat → Nat → Nat → Value), Value.int .i64 ((j + 1 : Nat) : Int) = .int .i64 (j' : Int) ∧ j' ≤ rl ∧ rl - (j + 1) = rl - j' ∧ CoJ w bq gc gr r rl a l cap P Q k i j' C V4) := by
            obtain ⟨p1, p2⟩ := PUT.out KX1.out
            unfold Hid
            rw [hW] at p1 p2
            refine ⟨j + 1, upC C j i F, rfl, by omega, rfl, ⟨?_, ?_, p1, ?_, ?_⟩⟩
            · rw [← hW]; exact MQ.out.ne HBQ.out.1
            · rw [← hW]
              exact MF.out.keep17 (Below.heap_setCell _ _ _ gr (fun q => HGG.out (by simpa using q.symm)))
            · refine upC_zi (Z := fun x t D => Zi w (.agg #[D 0, D 1]) (clP rl P x t) k ∧ Zi w (.agg #[D 2, D 3]) (clP rl Q x t) k) MZ.out ?_
              exact HFF.out.2
            · rw [← hW]; exact bset BG.out HBQ.out.2
          rw [hW]
          clear hW
          refine hK.out _ _ (fun h => absurd h (by decide)) ?_
          clear hK
          try simp only [Act.put]
          refine wpAnyT_done (by kernel_rfl) ?_ _
          clear GB KB KC CG PUT KX1 MQ MF MZ HFF BG TG J1 OC DF k0 d0 dd1 dd2 dd3 HB1 HNB ZP ZQ
          go_wp2_with fail
          go_roundg (rl - (j + 1))
          case rel => exact HN1.out
          case measure => exact HMM.out
        · have hlt2' : ¬ (j : Int) < (rl : Int) := by omega
          obtain rfl : j = rl := by omega
          have HN1 : Hid (∃ (i' : Nat) (C : Nat → Nat → Nat → Value), Value.int .i64 ((i + 1 : Nat) : Int) = .int .i64 (i' : Int) ∧ i' ≤ r ∧ r - (i + 1) = r - i' ∧ CoJ w bq gc gr r j a l cap P Q k i' 0 C wr) := ⟨i + 1, C, rfl, by omega, rfl, ⟨J.out.q, J.out.f, J.out.s.next, fun x t hx ht => J.out.z x t hx (by unfold ln17 at ht ⊢; rw [if_neg (by omega)] at ht; rw [if_pos hx]; exact ht), J.out.b⟩⟩
          clear J HG
          go_wp2_with fail
          go_roundg (r - (i + 1))
          case rel => exact HN1.out
          case measure => exact HMO.out
    · have hlt' : ¬ (i : Int) < (r : Int) := by omega
      obtain rfl : i = r := by omega
      have FF : Hid (CoD w i c P Q k (.returned (.slice (some ⟨gc, 0, none⟩) c c)) wr) := ⟨_, rfl, J.out.s.qls (by omega) fun j t hj ht => by
        have h := J.out.z j t hj (by unfold ln17; rw [if_neg (by omega)]; exact ht)
        exact ⟨h.1.now J.out.b, h.2.now J.out.b⟩, J.out.b⟩
      clear J HG
      go_wp2
      go_ret
      exact FF.out
end Go.Proofs.YthpldhaolpmneaaGreat
