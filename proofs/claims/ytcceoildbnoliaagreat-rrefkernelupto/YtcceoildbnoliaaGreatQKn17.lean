/-
  Kn17: Kernel.
-/
import Derived.Test.YtcceoildbnoliaaGreatQCc17ToAw17
import Derived.Test.YtcceoildbnoliaaGreatQUp17ToIc17
import Derived.Test.YtcceoildbnoliaaGreatQKp17
namespace Go.Proofs.YtcceoildbnoliaaGreat
open Go.RowKit
open Q17 (Rref Eqv Comb frL kx)
set_option linter.unusedVariables false
set_option linter.unusedSimpArgs false
attribute [local go_sem] st_fn17

theorem Ivs.ty17 {T : TypeId} {B : Nat} {w w' : World} {v : Value} {l : List Nat} (h : Ivs B w v l) (ht : Ty T w w') (hT : 3 ≠ T) : Ivs B w' v l := h.keep fun b L _ e => ht.2 b _ _ _ e hT
theorem Rw17.zl17 {w : World} {g n k : Nat} {F : Nat → Int} (h : Rw17 w g n F k) (hn : n ≤ 64) : Zl w (.slice (some ⟨g, 0, none⟩) n n) ((List.range n).map F) k := by
  obtain ⟨ps, h1, h2⟩ := h
  have hl : ps.length = n := by rw [h2.1]; simp
  have hp := h1.prs (B := 0) (Nat.zero_le _) (by omega) (Nat.le_refl _)
  rw [hl] at hp
  exact zl_of hp ⟨h2.1, fun j p z hpj hzj => (h2.2 j p z hpj hzj).zi⟩
/-- What Kernel puts over the lead's opposite. -/
def xzF (pv : List Nat) (L : Nat → Nat → Int) (d : Int) (f i : Nat) : Int := if i = f then -d else pvF pv L f pv.length i
def knR (n : Nat) (L : Nat → Nat → Int) (d : Int) (pv : List Nat) (T j : Nat) : Rat := kx (rq L d) pv ((frL T pv).getD (j / n) 0) (j % n)
theorem xz_kx {pv : List Nat} {L : Nat → Nat → Int} {d : Int} {f i : Nat} (hd : d ≠ 0) : Rat.divInt (xzF pv L d f i) (-d) = kx (rq L d) pv f i := by
  unfold xzF kx pvF
  rw [List.take_length]
  by_cases q : i = f
  · rw [if_pos q, if_pos q, Rat.divInt_eq_div, Rat.div_def]
    exact Rat.mul_inv_cancel _ (cast_ne (by omega))
  · rw [if_neg q, if_neg q]
    by_cases p : i ∈ pv
    · rw [if_pos p, if_pos p, ← rq_divInt, Rat.neg_divInt]
      exact (Rat.divInt_eq_divInt_iff (by omega) hd).2 (by grind)
    · rw [if_neg p, if_neg p, Rat.zero_divInt]
theorem knR_old {n t j : Nat} {L : Nat → Nat → Int} {d : Int} {pv : List Nat} (hf : t ∉ pv) (hj : j < (frL t pv).length * n) : knR n L d pv (t + 1) j = knR n L d pv t j := by
  have hn : 0 < n := Nat.pos_of_ne_zero fun e => by subst e; simp at hj
  have h1 : j / n < (frL t pv).length := (Nat.div_lt_iff_lt_mul hn).2 hj
  unfold knR
  rw [Q17.frL_succ, if_neg hf, List.getD_eq_getElem?_getD, List.getElem?_append_left h1, ← List.getD_eq_getElem?_getD]
theorem knR_new {n t j : Nat} {L : Nat → Nat → Int} {d : Int} {pv : List Nat} (hf : t ∉ pv) (hn : 0 < n) (hd : d ≠ 0) (h1 : (frL t pv).length * n ≤ j) (h2 : j < (frL t pv).length * n + n) : knR n L d pv (t + 1) j = Rat.divInt (xzF pv L d t (j - (frL t pv).length * n)) (-d) := by
  have e2 : j = n * (frL t pv).length + (j - (frL t pv).length * n) := by rw [Nat.mul_comm n]; omega
  have hjn : j - (frL t pv).length * n < n := by omega
  have e3 : j / n = (frL t pv).length := by rw [e2, Nat.mul_add_div hn, Nat.div_eq_of_lt hjn]; rfl
  have e4 : j % n = j - (frL t pv).length * n := by
    conv => lhs; rw [e2]
    rw [Nat.mul_add_mod, Nat.mod_eq_of_lt hjn]
  rw [xz_kx hd]
  unfold knR
  rw [Q17.frL_succ, if_neg hf, e3, e4, List.getD_eq_getElem?_getD, List.getElem?_append_right (Nat.le_refl _)]
  simp
theorem knR_skip {n t j : Nat} {L : Nat → Nat → Int} {d : Int} {pv : List Nat} (hf : t ∈ pv) : knR n L d pv (t + 1) j = knR n L d pv t j := by
  unfold knR
  rw [Q17.frL_succ, if_pos hf]
theorem frL_len_le (t : Nat) (pv : List Nat) : (frL t pv).length ≤ t := by
  unfold frL
  exact Nat.le_trans (List.length_filter_le _ _) (by simp)
theorem knR_rev {n m t : Nat} {L : Nat → Nat → Int} {d : Int} {pv : List Nat} (hm : m = (frL n pv).length) (ht : t < m * n) : knR n L d pv n (m * n - 1 - t) = Q17.kr n (rq L d) pv (t / n) (t % n) := by
  have hn : 0 < n := Nat.pos_of_ne_zero fun e => by subst e; simp at ht
  have h1 : t / n < m := (Nat.div_lt_iff_lt_mul hn).2 ht
  have h2 : t % n < n := Nat.mod_lt _ hn
  have e0 := Nat.div_add_mod t n
  have e2 : m * n - 1 - t = n * (m - 1 - t / n) + (n - 1 - t % n) := by
    rw [Nat.mul_sub, Nat.mul_sub, Nat.mul_comm n m, Nat.mul_one]
    have h3 : n * (t / n) + n ≤ m * n := by
      have := Nat.mul_le_mul_left n h1
      rw [Nat.mul_succ, Nat.mul_comm n m] at this
      exact this
    omega
  have hjn : n - 1 - t % n < n := by omega
  have e3 : (m * n - 1 - t) / n = m - 1 - t / n := by rw [e2, Nat.mul_add_div hn, Nat.div_eq_of_lt hjn]; rfl
  have e4 : (m * n - 1 - t) % n = n - 1 - t % n := by rw [e2, Nat.mul_add_mod, Nat.mod_eq_of_lt hjn]
  unfold knR Q17.kr
  rw [e3, e4, hm]
theorem Own4.tyT {B : Nat} {w w' : World} {v : Value} {n : Nat} {C : Nat → Nat → Value} (h : Own4 B w v n C) (ht : Touch (fun b => v.ownBlock = some b) w w') : Ty 47 w w' := ⟨ht.size, fun b L T' fr e hne => (ht.block b (Array.getElem?_eq_some_iff.1 e).1 fun q => by
  obtain ⟨_, _, L', e'⟩ := h.own q
  rw [e] at e'
  simp only [Option.some.injEq, Obj.cells.injEq] at e'
  exact hne e'.2.1).trans e⟩
def KnJ (w : World) (bq b2 b5 b6 rn cn : Nat) (a : Option Addr) (l cap : Nat) (L : Nat → Nat → Int) (d : Int) (k t : Nat) (s : Value) (nx : Bool) (ax : Option Addr) (lx cx : Nat) (la : Option Addr) (lc : Nat) (nd : Bool) (ad : Option Addr) (ld cd : Nat) (va : Option Addr) (pl vc : Nat) (gs : Nat → Nat) (pv : List Nat) (W wx : World) : Prop :=
  Cel wx bq 24 [.int .i64 (rn : Int), .int .i64 (cn : Int), .slice a l cap] ∧ Cel wx b2 24 [.int .i64 0, .int .i64 0, .slice none 0 0] ∧ Cel wx b5 69 [.bool nx, .slice ax lx cx, fnZ17, fnM17, fnS17, fnO17, .slice la cn lc, .bool nd, .slice ad ld cd, .slice va pl vc]
  ∧ Cel wx b6 24 [.int .i64 ((rn : Int) - (pl : Int)), .int .i64 (rn : Int), s] ∧ Zm 0 wx (.agg #[.bool nd, .slice ad ld cd]) d k ∧ Sh17 W.heap.size wx (.slice la cn lc) cn rn gs L k ∧ Ivs W.heap.size wx (.slice va pl vc) pv
  ∧ (∃ C, Own4 w.heap.size wx s ((frL t pv).length * rn) C ∧ ∀ j, j < (frL t pv).length * rn → Zm 0 wx (.agg #[C j 0, C j 1]) (knR rn L d pv t j).num k ∧ Zm 0 wx (.agg #[C j 2, C j 3]) ((knR rn L d pv t j).den : Int) k) ∧ Below w.heap.size w wx
theorem up_eqv {r c : Nat} {P Q : Nat → Int} : Eqv r c (qm (wha r (upP r c P) (upP r c Q))) (Q17.upq r (qfr c P Q)) := by
  refine Q17.eqv_scale (d := fun i => ((lcn (fun j => Rat.divInt (upP r c P i j) (upP r c Q i j)) r : Int) : Rat)) (fun i hi => cast_ne (by have := lcn_pos (fun j => Rat.divInt (upP r c P i j) (upP r c Q i j)) r; omega)) fun i j hi hj => ?_
  have h := whl_rat (fun j => Rat.divInt (upP r c P i j) (upP r c Q i j)) hj
  unfold qm wha
  rw [h]
  have e : Rat.divInt (upP r c P i j) (upP r c Q i j) = Q17.upq r (qfr c P Q) i j := rfl
  rw [e]
  grind
/-- What Kernel answers: E is the reduced form of the upended columns. -/
def Knd (w : World) (r c : Nat) (P Q : Nat → Int) (k : Nat) (e : Ending) (w' : World) : Prop :=
  ∃ E pv m a cap C, Rref c r E pv ∧ Eqv r c E (Q17.upq r (qfr c P Q)) ∧ m = (frL r pv).length ∧ e = .returned (.tuple #[qmv m r (.slice a (m * r) cap), .int .i64 0]) ∧ Own4 w.heap.size w' (.slice a (m * r) cap) (m * r) C ∧ (∀ t, t < m * r → Zm 0 w' (.agg #[C t 0, C t 1]) (Q17.kr r E pv (t / r) (t % r)).num k ∧ Zm 0 w' (.agg #[C t 2, C t 3]) ((Q17.kr r E pv (t / r) (t % r)).den : Int) k) ∧ Below w.heap.size w w'
set_option maxHeartbeats 1600000 in
set_option maxRecDepth 100000 in
theorem kernel_bad {w : World} {r c : Int} {a : Option Addr} {l cap k : Nat} {P Q : Nat → Int} (hv : Qs w (.slice a l cap) l P Q k) (hb : ¬ Snd r c l ∨ ∃ t, t < l ∧ Q t = 0) :
    Calls Tryz.prog 17 #[.agg #[.int .i64 r, .int .i64 c, .slice a l cap]] w fun e w' => ∃ code : Int, e = .returned (.tuple #[qm0, .int .i64 code]) ∧ code ≠ 0 ∧ FltIs (¬ Snd r c l) (∃ t, t < l ∧ Q t = 0) true code ∧ Below w.heap.size w w' := by
  obtain ⟨W1, hW⟩ : ∃ W1, ((w.alloc (.cells #[.int .i64 r, .int .i64 c, .slice a l cap] 24)).alloc (.cells #[.int .i64 0, .int .i64 0, .slice none 0 0] 24)).alloc (.cells #[.int .i64 r, .int .i64 c, .slice a l cap] 24) = W1 := ⟨_, rfl⟩
  obtain ⟨b0, sz0⟩ := alloc3 w (.cells #[.int .i64 r, .int .i64 c, .slice a l cap] 24) (.cells #[.int .i64 0, .int .i64 0, .slice none 0 0] 24) (.cells #[.int .i64 r, .int .i64 c, .slice a l cap] 24)
  rw [hW] at b0 sz0
  have CQ : Hid (Cel W1 w.heap.size 24 [.int .i64 r, .int .i64 c, .slice a l cap]) := by
    unfold Hid; rw [← hW]
    exact ((Cel.new w 24 [.int .i64 r, .int .i64 c, .slice a l cap]).step (alo1 _ _).1).step (alo1 _ _).1
  have C0 : Hid (Cel W1 (w.heap.size + 1) 24 [.int .i64 0, .int .i64 0, .slice none 0 0]) := by
    unfold Hid; rw [← hW]
    have := (Cel.new (w.alloc (.cells #[.int .i64 r, .int .i64 c, .slice a l cap] 24)) 24 [.int .i64 0, .int .i64 0, .slice none 0 0]).step (alo1 _ (.cells #[.int .i64 r, .int .i64 c, .slice a l cap] 24)).1
    simpa using this
  have CA : Cel W1 (w.heap.size + 1 + 1) 24 [.int .i64 r, .int .i64 c, .slice a l cap] := by
    rw [← hW]
    have := Cel.new ((w.alloc (.cells #[.int .i64 r, .int .i64 c, .slice a l cap] 24)).alloc (.cells #[.int .i64 0, .int .i64 0, .slice none 0 0] 24)) 24 [.int .i64 r, .int .i64 c, .slice a l cap]
    simpa using this
  have HF := hid (fault17 (w := W1) (w0 := W1) (g := w.heap.size + 1 + 1) (n := 1) (k := k) (q := fun _ => ⟨r, c, a, l, cap⟩) (P := fun _ => P) (Q := fun _ => Q) (fits := true) (by omega) (fun j hj => by
    obtain rfl : j = 0 := by omega
    exact ⟨CA.at (i := 0) rfl, CA.at (i := 1) rfl, CA.at (i := 2) rfl⟩) (fun j hj => hv.now b0))
  have B0 := hid b0
  have EW := hid hW
  have x0 := CQ.out.at (i := 0) rfl
  have x1 := CQ.out.at (i := 1) rfl
  have x2 := CQ.out.at (i := 2) rfl
  rw [← hW] at x0 x1 x2
  clear b0 sz0 hW CA
  go_enter Tryz.func17, Tryz.ntmps17
  go_wp2_with fail
  rw [EW.out]
  refine HF.out.mono ?_
  rintro e w1 ⟨code, rfl, hcode, b1⟩
  have hco := FltIs.one hcode
  have hc0 : code ≠ 0 := by
    rcases hco with ⟨h1, h2⟩ | ⟨h1, h2, h3⟩ | ⟨h1, h2, h3, h4⟩ | ⟨h1, h2, h3, h4⟩
    · omega
    · omega
    · omega
    · rcases hb with q | q
      · exact absurd q h2
      · exact absurd q h4
  have C2 := C0.out.step b1
  have c0 := C2.at (i := 0) rfl
  have c1 := C2.at (i := 1) rfl
  have c2 := C2.at (i := 2) rfl
  have f0 := C2.fz 0
  have f1 := C2.fz 1
  have f2 := C2.fz 2
  have hne : (code != 0) = true := by simp [hc0]
  obtain ⟨V, hV⟩ : ∃ V, ((w1.setCell ⟨w.heap.size + 1, 0, none⟩ (.int .i64 0)).setCell ⟨w.heap.size + 1, 1, none⟩ (.int .i64 0)).setCell ⟨w.heap.size + 1, 2, none⟩ (.slice none 0 0) = V := ⟨_, rfl⟩
  have DR : Hid (Cel V (w.heap.size + 1) 24 [.int .i64 0, .int .i64 0, .slice none 0 0]) := by unfold Hid; rw [← hV]; exact ((C2.set 0 _).set 1 _).set 2 _
  have FF : Hid (∃ code' : Int, (Ending.returned (.tuple #[qm0, .int .i64 code])) = .returned (.tuple #[qm0, .int .i64 code']) ∧ code' ≠ 0 ∧ FltIs (¬ Snd r c l) (∃ t, t < l ∧ Q t = 0) true code' ∧ Below w.heap.size w V) := by
    refine ⟨code, rfl, hc0, hco, ?_⟩
    rw [← hV]
    have h : w.heap.size ≤ w.heap.size + 1 := by omega
    exact bset (bset (bset (below_step B0.out b1) h) h) h
  have EV := hid hV
  have hne2 : ¬ code = 0 := hc0
  clear HF hcode hco b1 hc0 hb C2 hV EW B0 C0
  go_wp2
  rw [EV.out]
  exact bodyPost_ret (qback2 Tryz.results17 DR.out _ (by rfl) (by rfl)) rfl FF.out
set_option maxHeartbeats 6400000 in
set_option maxRecDepth 100000 in
theorem kernel_yes {w : World} {rn cn : Nat} {a : Option Addr} {l cap k KW : Nat} {P Q : Nat → Int} (hv : Qs w (.slice a l cap) l P Q k) (hl : l = rn * cn) (hr : rn ≤ 64) (hcn : cn ≤ 64) (hQ : ∀ t, t < l → Q t ≠ 0) (hk : k ≤ 400000000) (hk1 : 1 ≤ k)
    (hK : ∀ f, ((dcl (wha rn (upP rn cn P) (upP rn cn Q)) cn rn f).natAbs : Int) < pw KW) (h1 : 1 ≤ KW) (hkw : KW ≤ 68719476736) :
    Calls Tryz.prog 17 #[qmv rn cn (.slice a l cap)] w (Knd w rn cn P Q KW) := by
  have hS : Snd (rn : Int) (cn : Int) l := ⟨by omega, by omega, by omega, by omega, by rw [hl]; exact Int.natCast_mul _ _⟩
  show Calls Tryz.prog 17 #[.agg #[.int .i64 (rn : Int), .int .i64 (cn : Int), .slice a l cap]] w _
  obtain ⟨W1, hW⟩ : ∃ W1, ((w.alloc (.cells #[.int .i64 (rn : Int), .int .i64 (cn : Int), .slice a l cap] 24)).alloc (.cells #[.int .i64 0, .int .i64 0, .slice none 0 0] 24)).alloc (.cells #[.int .i64 (rn : Int), .int .i64 (cn : Int), .slice a l cap] 24) = W1 := ⟨_, rfl⟩
  obtain ⟨b0, sz0⟩ := alloc3 w (.cells #[.int .i64 (rn : Int), .int .i64 (cn : Int), .slice a l cap] 24) (.cells #[.int .i64 0, .int .i64 0, .slice none 0 0] 24) (.cells #[.int .i64 (rn : Int), .int .i64 (cn : Int), .slice a l cap] 24)
  rw [hW] at b0 sz0
  have CQ : Hid (Cel W1 w.heap.size 24 [.int .i64 (rn : Int), .int .i64 (cn : Int), .slice a l cap]) := by
    unfold Hid; rw [← hW]
    exact ((Cel.new w 24 [.int .i64 (rn : Int), .int .i64 (cn : Int), .slice a l cap]).step (alo1 _ _).1).step (alo1 _ _).1
  have C0 : Hid (Cel W1 (w.heap.size + 1) 24 [.int .i64 0, .int .i64 0, .slice none 0 0]) := by
    unfold Hid; rw [← hW]
    have := (Cel.new (w.alloc (.cells #[.int .i64 (rn : Int), .int .i64 (cn : Int), .slice a l cap] 24)) 24 [.int .i64 0, .int .i64 0, .slice none 0 0]).step (alo1 _ (.cells #[.int .i64 (rn : Int), .int .i64 (cn : Int), .slice a l cap] 24)).1
    simpa using this
  have CA : Cel W1 (w.heap.size + 1 + 1) 24 [.int .i64 (rn : Int), .int .i64 (cn : Int), .slice a l cap] := by
    rw [← hW]
    have := Cel.new ((w.alloc (.cells #[.int .i64 (rn : Int), .int .i64 (cn : Int), .slice a l cap] 24)).alloc (.cells #[.int .i64 0, .int .i64 0, .slice none 0 0] 24)) 24 [.int .i64 (rn : Int), .int .i64 (cn : Int), .slice a l cap]
    simpa using this
  have HF := hid (fault17 (w := W1) (w0 := W1) (g := w.heap.size + 1 + 1) (n := 1) (k := k) (q := fun _ => ⟨(rn : Int), (cn : Int), a, l, cap⟩) (P := fun _ => P) (Q := fun _ => Q) (fits := true) (by omega) (fun j hj => by
    obtain rfl : j = 0 := by omega
    exact ⟨CA.at (i := 0) rfl, CA.at (i := 1) rfl, CA.at (i := 2) rfl⟩) (fun j hj => hv.now b0))
  have B0 := hid b0
  have EW := hid hW
  have x0 := CQ.out.at (i := 0) rfl
  have x1 := CQ.out.at (i := 1) rfl
  have x2 := CQ.out.at (i := 2) rfl
  rw [← hW] at x0 x1 x2
  clear b0 sz0 hW CA
  have HRO : Hid (∀ {w' : World}, Below w.heap.size w w' → Calls Tryz.prog 45 #[.agg #[.int .i64 (rn : Int), .int .i64 (cn : Int), .slice a l cap]] w' (UpD w' rn cn P Q k)) := fun hb => upended17 (hv.now hb) hl hr hcn
  have HQ2 : Hid (∀ i j, i < cn → j < rn → upP rn cn Q i j ≠ 0) := fun i j hi hj => by
    unfold upP
    exact hQ _ (by rw [hl]; exact zF_lt17 (by omega) hi)
  have HEL : Hid (∀ {w' : World} {v : Value}, QLs w' v cn rn (upP rn cn P) (upP rn cn Q) k → Calls Tryz.prog 29 #[v, .int .i64 (rn : Int)] w' (Eld (wha rn (upP rn cn P) (upP rn cn Q)) w'.heap.size w' cn rn rn KW)) := fun h => eliminated_any h HQ2.out hcn (by omega) hk hk1 (by omega) hK h1 (by omega)
  have HKW := hid hkw
  have HQQ := hid hQ
  clear hv hl hQ hk hk1 hK h1 hkw
  go_enter Tryz.func17, Tryz.ntmps17
  go_wp2_with fail
  rw [EW.out]
  refine HF.out.mono ?_
  rintro e w1 ⟨code, rfl, hcode, b1⟩
  obtain rfl : code = 0 := by
    rcases FltIs.one hcode with ⟨h1, h2⟩ | ⟨h1, h2, h3⟩ | ⟨h1, h2, h3, t, ht, h4⟩ | ⟨h1, h2, h3, h4⟩
    · exact absurd hS h2
    · cases h3
    · exact absurd h4 (HQQ.out t ht)
    · exact h1
  have CQ1 := hid (CQ.out.step b1)
  have C1 := hid (C0.out.step b1)
  have G1 := hid (below_step B0.out b1)
  have HBQ : Hid (w.heap.size + 1 < w1.heap.size) := C1.out.blk
  have y0 := CQ1.out.at (i := 0) rfl
  have y1 := CQ1.out.at (i := 1) rfl
  have y2 := CQ1.out.at (i := 2) rfl
  clear HF hcode b1 CQ C0 B0 EW x0 x1 x2 hS HQQ HQ2
  go_wp2_with fail
  go_cut [5] from 6 (fun s1 wx => MetE (wha rn (upP rn cn P) (upP rn cn Q)) w1 cn rn rn KW s1 wx)
  case first =>
    have KB : Hid (∀ w', Below w1.heap.size w1 w' → w'.cell? ⟨w.heap.size, 0, none⟩ = some (.int .i64 (rn : Int)) ∧ w'.cell? ⟨w.heap.size, 1, none⟩ = some (.int .i64 (cn : Int)) ∧ w'.cell? ⟨w.heap.size, 2, none⟩ = some (.slice a l cap)) := fun w' h => ⟨cnow h y0, cnow h y1, cnow h y2⟩
    refine wp_region_tail (fun w' => w'.cell? ⟨w.heap.size, 0, none⟩ = some (.int .i64 (rn : Int)) ∧ w'.cell? ⟨w.heap.size, 1, none⟩ = some (.int .i64 (cn : Int)) ∧ w'.cell? ⟨w.heap.size, 2, none⟩ = some (.slice a l cap)) 6 (by kernel_rfl) ?_
    obtain ⟨D1, hD⟩ : ∃ D1, w1.drew = D1 := ⟨_, rfl⟩
    have GB : Hid (Below w1.heap.size w1 D1) := by unfold Hid; rw [← hD]; exact (Below.refl _ _).drew
    rw [hD]
    clear hD
    have GZ : Hid (w1.heap.size ≤ D1.heap.size) := GB.out.size
    refine wpAnyT_take (i := 0) (oi := { dst := some 17, op := Op.load 24 (Operand.tmp 1), type := 24, pos := "rref.go:61", after := #[], guard := none }) (v := (.agg #[.int .i64 (rn : Int), .int .i64 (cn : Int), .slice a l cap])) rfl (by kernel_rfl) (fun _ _ _ h => h) (Or.inl ⟨by rfl, ?_⟩) (KB.out _ GB.out) ?_
    · intro w hSw
      (try dsimp only at hSw)
      go_simp
    simp only [Act.put, List.setIfInBounds_toArray, List.set_cons_zero, List.set_cons_succ]
    refine wpAnyT_take (i := 2) (oi := { dst := some 19, op := Op.fieldAddr 24 (Operand.tmp 1) 0, type := 0, pos := "rref.go:61", after := #[], guard := none }) (v := (.pointer (some ⟨w.heap.size, 0, none⟩))) rfl (by kernel_rfl) (fun _ _ _ h => h) (Or.inl ⟨by rfl, ?_⟩) (KB.out _ GB.out) ?_
    · intro w hSw
      (try dsimp only at hSw)
      go_simp
    simp only [Act.put, List.setIfInBounds_toArray, List.set_cons_zero, List.set_cons_succ]
    refine wpAnyT_take (i := 3) (oi := { dst := some 20, op := Op.load 3 (Operand.tmp 19), type := 3, pos := "rref.go:61", after := #[{ on := 2, ground := Ground.data }], guard := none }) (v := (.int .i64 (rn : Int))) rfl (by kernel_rfl) (fun _ _ _ h => h) (Or.inl ⟨by rfl, ?_⟩) (KB.out _ GB.out) ?_
    · intro w hSw
      (try dsimp only at hSw)
      go_simp
    simp only [Act.put, List.setIfInBounds_toArray, List.set_cons_zero, List.set_cons_succ]
    refine wpAnyT_two (i := 1) (j := 5) (oi := { dst := some 18, op := Op.call { callee := Callee.value (Operand.func 45), args := #[Operand.tmp 17], argTypes := #[24] }, type := 71, pos := "rref.go:61", after := #[{ on := 0, ground := Ground.data }], guard := none }) (oj := { dst := some 5, op := Op.alloc 69, type := 0, pos := "rref.go:61", after := #[], guard := none }) (by kernel_rfl) rfl rfl (fun K hK => ?_) (fun K hK => ?_)
    · skip
      go_simp
      go_at_call 45
      refine (HRO.out (below_step G1.out GB.out)).mono ?_
      rintro e w2 ⟨vr, rfl, hfil, b⟩
      have lz2 := (show Below _ _ _ from b).size
      replace GB := hid (below_step GB.out b)
      have QL := hid hfil
      clear hfil
      replace GZ : Hid (w1.heap.size ≤ w2.heap.size) := GB.out.size
      clear b
      refine hK.out _ _ (fun _ => KB.out _ GB.out) ?_
      clear hK
      refine wpAnyT_two (i := 4) (j := 5) (oi := { dst := some 21, op := Op.call { callee := Callee.value (Operand.func 29), args := #[Operand.tmp 18, Operand.tmp 20], argTypes := #[71, 3] }, type := 69, pos := "rref.go:61", after := #[{ on := 1, ground := Ground.data }, { on := 3, ground := Ground.data }, { on := 1, ground := Ground.chain }], guard := none }) (oj := { dst := some 5, op := Op.alloc 69, type := 0, pos := "rref.go:61", after := #[], guard := none }) (by kernel_rfl) rfl rfl (fun K hK => ?_) (fun K hK => ?_)
      · skip
        go_simp
        go_at_call 29
        refine (HEL.out QL.out).mono ?_
        rintro e w3 hE
        obtain ⟨nx, ax, lx, cx, la, lc, nd, ad, ld, cd, va, pl, vc, gs, L, d, pv, rfl, hpl, t1, t2, t3, t4, b⟩ := hE.form
        clear hE QL
        have EE : Hid (Ivs w1.heap.size w3 (.slice va pl vc) pv ∧ Sh17 w1.heap.size w3 (.slice la cn lc) cn rn gs L KW ∧ Zm 0 w3 (.agg #[.bool nd, .slice ad ld cd]) d KW) := ⟨owns_mono11 t2 GZ.out, t3.mono GZ.out, t1⟩
        have ELS := hid t4
        replace GB := hid (below_step GB.out b)
        replace GZ : Hid (w1.heap.size ≤ w3.heap.size) := GB.out.size
        clear t1 t2 t3 t4 hpl b
        refine hK.out _ _ (fun _ => KB.out _ GB.out) ?_
        clear hK
        refine wpAnyT_one (i := 5) (o := { dst := some 5, op := Op.alloc 69, type := 0, pos := "rref.go:61", after := #[], guard := none }) (by kernel_rfl) rfl (fun K hK => ?_)
        go_simp
        obtain ⟨V4, hW⟩ : ∃ V4, w3.alloc (.cells #[.bool false, .slice none 0 0, .nilFunc, .nilFunc, .nilFunc, .nilFunc, .slice none 0 0, .bool false, .slice none 0 0, .slice none 0 0] 69) = V4 := ⟨_, rfl⟩
        obtain ⟨b, sz4⟩ := alo1 w3 (.cells #[.bool false, .slice none 0 0, .nilFunc, .nilFunc, .nilFunc, .nilFunc, .slice none 0 0, .bool false, .slice none 0 0, .slice none 0 0] 69)
        rw [hW] at b sz4
        replace GB := hid (below_step GB.out b)
        have DX : Hid (Cel V4 w3.heap.size 69 [.bool false, .slice none 0 0, .nilFunc, .nilFunc, .nilFunc, .nilFunc, .slice none 0 0, .bool false, .slice none 0 0, .slice none 0 0]) := by unfold Hid; rw [← hW]; exact Cel.new w3 _ _
        have SX := hid (show w1.heap.size ≤ w3.heap.size from GZ.out)
        replace GZ : Hid (w1.heap.size ≤ V4.heap.size) := GB.out.size
        replace EE := hid (⟨EE.out.1.now b, EE.out.2.1.now b, EE.out.2.2.now b⟩ : _ ∧ _ ∧ _)
        clear sz4
        rw [hW]
        clear hW b
        refine hK.out _ _ (fun _ => KB.out _ GB.out) ?_
        clear hK
        try simp only [Act.put]
        refine wpAnyT_one (i := 6) (o := { dst := none, op := Op.store 69 (Operand.tmp 5) (Operand.tmp 21), type := 0, pos := "rref.go:61", after := #[{ on := 5, ground := Ground.data }, { on := 4, ground := Ground.data }, { on := 4, ground := Ground.chain }, { on := 0, ground := Ground.phase }, { on := 1, ground := Ground.phase }, { on := 2, ground := Ground.phase }, { on := 3, ground := Ground.phase }, { on := 4, ground := Ground.phase }, { on := 5, ground := Ground.phase }], guard := none }) (by kernel_rfl) rfl (fun K hK => ?_)
        have h0 := DX.out.at (i := 0) rfl
        have j0 := DX.out.fz 0
        have h1 := DX.out.at (i := 1) rfl
        have j1 := DX.out.fz 1
        have h2 := DX.out.at (i := 2) rfl
        have j2 := DX.out.fz 2
        have h3 := DX.out.at (i := 3) rfl
        have j3 := DX.out.fz 3
        have h4 := DX.out.at (i := 4) rfl
        have j4 := DX.out.fz 4
        have h5 := DX.out.at (i := 5) rfl
        have j5 := DX.out.fz 5
        have h6 := DX.out.at (i := 6) rfl
        have j6 := DX.out.fz 6
        have h7 := DX.out.at (i := 7) rfl
        have j7 := DX.out.fz 7
        have h8 := DX.out.at (i := 8) rfl
        have j8 := DX.out.fz 8
        have h9 := DX.out.at (i := 9) rfl
        have j9 := DX.out.fz 9
        go_simp
        clear h0 h1 h2 h3 h4 h5 h6 h7 h8 h9 j0 j1 j2 j3 j4 j5 j6 j7 j8 j9
        obtain ⟨V5, hW⟩ : ∃ V5, ((((((((((V4.setCell ⟨w3.heap.size, 0, none⟩ (.bool nx)).setCell ⟨w3.heap.size, 1, none⟩ (.slice ax lx cx)).setCell ⟨w3.heap.size, 2, none⟩ fnZ17).setCell ⟨w3.heap.size, 3, none⟩ fnM17).setCell ⟨w3.heap.size, 4, none⟩ fnS17).setCell ⟨w3.heap.size, 5, none⟩ fnO17).setCell ⟨w3.heap.size, 6, none⟩ (.slice la cn lc)).setCell ⟨w3.heap.size, 7, none⟩ (.bool nd)).setCell ⟨w3.heap.size, 8, none⟩ (.slice ad ld cd)).setCell ⟨w3.heap.size, 9, none⟩ (.slice va pl vc)) = V5 := ⟨_, rfl⟩
        obtain ⟨t1, t2, t3⟩ := ten_set DX.out SX.out _ _ _ _ _ _ _ _ _ _ V5 hW
        have FN4 : Hid (MetE (wha rn (upP rn cn P) (upP rn cn Q)) w1 cn rn rn KW (.pointer (some ⟨w3.heap.size, 0, none⟩)) V5) := ⟨_, nx, ax, lx, cx, _, nd, ad, ld, cd, _, gs, L, d, pv, rfl, SX.out, t1, EE.out.2.2.ty t2 (by decide), EE.out.1.keep fun b L _ e => t2.2 b _ _ _ e (by decide), EE.out.2.1.ty t2 (by decide) (by decide) (by decide), ELS.out, GB.out.trans t3⟩
        clear t1 t2 t3
        rw [hW]
        clear hW
        refine hK.out _ _ (fun h => absurd h (by decide)) ?_
        clear hK
        try simp only [Act.put]
        refine wpAnyT_done (by kernel_rfl) ?_ _
        clear GB GZ DX SX EE ELS
        go_wp2_with fail
        go_meet
        exact FN4.out
      · skip
        go_simp
        obtain ⟨V6, hW⟩ : ∃ V6, w2.alloc (.cells #[.bool false, .slice none 0 0, .nilFunc, .nilFunc, .nilFunc, .nilFunc, .slice none 0 0, .bool false, .slice none 0 0, .slice none 0 0] 69) = V6 := ⟨_, rfl⟩
        obtain ⟨b, sz6⟩ := alo1 w2 (.cells #[.bool false, .slice none 0 0, .nilFunc, .nilFunc, .nilFunc, .nilFunc, .slice none 0 0, .bool false, .slice none 0 0, .slice none 0 0] 69)
        rw [hW] at b sz6
        replace GB := hid (below_step GB.out b)
        have DX : Hid (Cel V6 w2.heap.size 69 [.bool false, .slice none 0 0, .nilFunc, .nilFunc, .nilFunc, .nilFunc, .slice none 0 0, .bool false, .slice none 0 0, .slice none 0 0]) := by unfold Hid; rw [← hW]; exact Cel.new w2 _ _
        have SX := hid (show w1.heap.size ≤ w2.heap.size from GZ.out)
        replace GZ : Hid (w1.heap.size ≤ V6.heap.size) := GB.out.size
        try replace QL := hid (QL.out.now b)
        clear sz6
        rw [hW]
        clear hW b
        refine hK.out _ _ (fun _ => KB.out _ GB.out) ?_
        clear hK
        try simp only [Act.put]
        refine wpAnyT_one (i := 4) (o := { dst := some 21, op := Op.call { callee := Callee.value (Operand.func 29), args := #[Operand.tmp 18, Operand.tmp 20], argTypes := #[71, 3] }, type := 69, pos := "rref.go:61", after := #[{ on := 1, ground := Ground.data }, { on := 3, ground := Ground.data }, { on := 1, ground := Ground.chain }], guard := none }) (by kernel_rfl) rfl (fun K hK => ?_)
        go_simp
        go_at_call 29
        refine (HEL.out QL.out).mono ?_
        rintro e w7 hE
        obtain ⟨nx, ax, lx, cx, la, lc, nd, ad, ld, cd, va, pl, vc, gs, L, d, pv, rfl, hpl, t1, t2, t3, t4, b⟩ := hE.form
        clear hE QL
        have EE : Hid (Ivs w1.heap.size w7 (.slice va pl vc) pv ∧ Sh17 w1.heap.size w7 (.slice la cn lc) cn rn gs L KW ∧ Zm 0 w7 (.agg #[.bool nd, .slice ad ld cd]) d KW) := ⟨owns_mono11 t2 GZ.out, t3.mono GZ.out, t1⟩
        have ELS := hid t4
        replace GB := hid (below_step GB.out b)
        replace DX := hid (DX.out.step b)
        replace GZ : Hid (w1.heap.size ≤ w7.heap.size) := GB.out.size
        clear t1 t2 t3 t4 hpl b
        refine hK.out _ _ (fun _ => KB.out _ GB.out) ?_
        clear hK
        refine wpAnyT_one (i := 6) (o := { dst := none, op := Op.store 69 (Operand.tmp 5) (Operand.tmp 21), type := 0, pos := "rref.go:61", after := #[{ on := 5, ground := Ground.data }, { on := 4, ground := Ground.data }, { on := 4, ground := Ground.chain }, { on := 0, ground := Ground.phase }, { on := 1, ground := Ground.phase }, { on := 2, ground := Ground.phase }, { on := 3, ground := Ground.phase }, { on := 4, ground := Ground.phase }, { on := 5, ground := Ground.phase }], guard := none }) (by kernel_rfl) rfl (fun K hK => ?_)
        have h0 := DX.out.at (i := 0) rfl
        have j0 := DX.out.fz 0
        have h1 := DX.out.at (i := 1) rfl
        have j1 := DX.out.fz 1
        have h2 := DX.out.at (i := 2) rfl
        have j2 := DX.out.fz 2
        have h3 := DX.out.at (i := 3) rfl
        have j3 := DX.out.fz 3
        have h4 := DX.out.at (i := 4) rfl
        have j4 := DX.out.fz 4
        have h5 := DX.out.at (i := 5) rfl
        have j5 := DX.out.fz 5
        have h6 := DX.out.at (i := 6) rfl
        have j6 := DX.out.fz 6
        have h7 := DX.out.at (i := 7) rfl
        have j7 := DX.out.fz 7
        have h8 := DX.out.at (i := 8) rfl
        have j8 := DX.out.fz 8
        have h9 := DX.out.at (i := 9) rfl
        have j9 := DX.out.fz 9
        go_simp
        clear h0 h1 h2 h3 h4 h5 h6 h7 h8 h9 j0 j1 j2 j3 j4 j5 j6 j7 j8 j9
        obtain ⟨V8, hW⟩ : ∃ V8, ((((((((((w7.setCell ⟨w2.heap.size, 0, none⟩ (.bool nx)).setCell ⟨w2.heap.size, 1, none⟩ (.slice ax lx cx)).setCell ⟨w2.heap.size, 2, none⟩ fnZ17).setCell ⟨w2.heap.size, 3, none⟩ fnM17).setCell ⟨w2.heap.size, 4, none⟩ fnS17).setCell ⟨w2.heap.size, 5, none⟩ fnO17).setCell ⟨w2.heap.size, 6, none⟩ (.slice la cn lc)).setCell ⟨w2.heap.size, 7, none⟩ (.bool nd)).setCell ⟨w2.heap.size, 8, none⟩ (.slice ad ld cd)).setCell ⟨w2.heap.size, 9, none⟩ (.slice va pl vc)) = V8 := ⟨_, rfl⟩
        obtain ⟨t1, t2, t3⟩ := ten_set DX.out SX.out _ _ _ _ _ _ _ _ _ _ V8 hW
        have FN4 : Hid (MetE (wha rn (upP rn cn P) (upP rn cn Q)) w1 cn rn rn KW (.pointer (some ⟨w2.heap.size, 0, none⟩)) V8) := ⟨_, nx, ax, lx, cx, _, nd, ad, ld, cd, _, gs, L, d, pv, rfl, SX.out, t1, EE.out.2.2.ty t2 (by decide), EE.out.1.keep fun b L _ e => t2.2 b _ _ _ e (by decide), EE.out.2.1.ty t2 (by decide) (by decide) (by decide), ELS.out, GB.out.trans t3⟩
        clear t1 t2 t3
        rw [hW]
        clear hW
        refine hK.out _ _ (fun h => absurd h (by decide)) ?_
        clear hK
        try simp only [Act.put]
        refine wpAnyT_done (by kernel_rfl) ?_ _
        clear GB GZ DX SX EE ELS
        go_wp2_with fail
        go_meet
        exact FN4.out
    · skip
      go_simp
      obtain ⟨V9, hW⟩ : ∃ V9, D1.alloc (.cells #[.bool false, .slice none 0 0, .nilFunc, .nilFunc, .nilFunc, .nilFunc, .slice none 0 0, .bool false, .slice none 0 0, .slice none 0 0] 69) = V9 := ⟨_, rfl⟩
      obtain ⟨b, sz9⟩ := alo1 D1 (.cells #[.bool false, .slice none 0 0, .nilFunc, .nilFunc, .nilFunc, .nilFunc, .slice none 0 0, .bool false, .slice none 0 0, .slice none 0 0] 69)
      rw [hW] at b sz9
      replace GB := hid (below_step GB.out b)
      have DX : Hid (Cel V9 D1.heap.size 69 [.bool false, .slice none 0 0, .nilFunc, .nilFunc, .nilFunc, .nilFunc, .slice none 0 0, .bool false, .slice none 0 0, .slice none 0 0]) := by unfold Hid; rw [← hW]; exact Cel.new D1 _ _
      have SX := hid (show w1.heap.size ≤ D1.heap.size from GZ.out)
      replace GZ : Hid (w1.heap.size ≤ V9.heap.size) := GB.out.size
      clear sz9
      rw [hW]
      clear hW b
      refine hK.out _ _ (fun _ => KB.out _ GB.out) ?_
      clear hK
      try simp only [Act.put]
      refine wpAnyT_one (i := 1) (o := { dst := some 18, op := Op.call { callee := Callee.value (Operand.func 45), args := #[Operand.tmp 17], argTypes := #[24] }, type := 71, pos := "rref.go:61", after := #[{ on := 0, ground := Ground.data }], guard := none }) (by kernel_rfl) rfl (fun K hK => ?_)
      go_simp
      go_at_call 45
      refine (HRO.out (below_step G1.out GB.out)).mono ?_
      rintro e w10 ⟨vr, rfl, hfil, b⟩
      have lz10 := (show Below _ _ _ from b).size
      replace GB := hid (below_step GB.out b)
      have QL := hid hfil
      clear hfil
      replace DX := hid (DX.out.step b)
      replace GZ : Hid (w1.heap.size ≤ w10.heap.size) := GB.out.size
      clear b
      refine hK.out _ _ (fun _ => KB.out _ GB.out) ?_
      clear hK
      refine wpAnyT_one (i := 4) (o := { dst := some 21, op := Op.call { callee := Callee.value (Operand.func 29), args := #[Operand.tmp 18, Operand.tmp 20], argTypes := #[71, 3] }, type := 69, pos := "rref.go:61", after := #[{ on := 1, ground := Ground.data }, { on := 3, ground := Ground.data }, { on := 1, ground := Ground.chain }], guard := none }) (by kernel_rfl) rfl (fun K hK => ?_)
      go_simp
      go_at_call 29
      refine (HEL.out QL.out).mono ?_
      rintro e w11 hE
      obtain ⟨nx, ax, lx, cx, la, lc, nd, ad, ld, cd, va, pl, vc, gs, L, d, pv, rfl, hpl, t1, t2, t3, t4, b⟩ := hE.form
      clear hE QL
      have EE : Hid (Ivs w1.heap.size w11 (.slice va pl vc) pv ∧ Sh17 w1.heap.size w11 (.slice la cn lc) cn rn gs L KW ∧ Zm 0 w11 (.agg #[.bool nd, .slice ad ld cd]) d KW) := ⟨owns_mono11 t2 GZ.out, t3.mono GZ.out, t1⟩
      have ELS := hid t4
      replace GB := hid (below_step GB.out b)
      replace DX := hid (DX.out.step b)
      replace GZ : Hid (w1.heap.size ≤ w11.heap.size) := GB.out.size
      clear t1 t2 t3 t4 hpl b
      refine hK.out _ _ (fun _ => KB.out _ GB.out) ?_
      clear hK
      refine wpAnyT_one (i := 6) (o := { dst := none, op := Op.store 69 (Operand.tmp 5) (Operand.tmp 21), type := 0, pos := "rref.go:61", after := #[{ on := 5, ground := Ground.data }, { on := 4, ground := Ground.data }, { on := 4, ground := Ground.chain }, { on := 0, ground := Ground.phase }, { on := 1, ground := Ground.phase }, { on := 2, ground := Ground.phase }, { on := 3, ground := Ground.phase }, { on := 4, ground := Ground.phase }, { on := 5, ground := Ground.phase }], guard := none }) (by kernel_rfl) rfl (fun K hK => ?_)
      have h0 := DX.out.at (i := 0) rfl
      have j0 := DX.out.fz 0
      have h1 := DX.out.at (i := 1) rfl
      have j1 := DX.out.fz 1
      have h2 := DX.out.at (i := 2) rfl
      have j2 := DX.out.fz 2
      have h3 := DX.out.at (i := 3) rfl
      have j3 := DX.out.fz 3
      have h4 := DX.out.at (i := 4) rfl
      have j4 := DX.out.fz 4
      have h5 := DX.out.at (i := 5) rfl
      have j5 := DX.out.fz 5
      have h6 := DX.out.at (i := 6) rfl
      have j6 := DX.out.fz 6
      have h7 := DX.out.at (i := 7) rfl
      have j7 := DX.out.fz 7
      have h8 := DX.out.at (i := 8) rfl
      have j8 := DX.out.fz 8
      have h9 := DX.out.at (i := 9) rfl
      have j9 := DX.out.fz 9
      go_simp
      clear h0 h1 h2 h3 h4 h5 h6 h7 h8 h9 j0 j1 j2 j3 j4 j5 j6 j7 j8 j9
      obtain ⟨V12, hW⟩ : ∃ V12, ((((((((((w11.setCell ⟨D1.heap.size, 0, none⟩ (.bool nx)).setCell ⟨D1.heap.size, 1, none⟩ (.slice ax lx cx)).setCell ⟨D1.heap.size, 2, none⟩ fnZ17).setCell ⟨D1.heap.size, 3, none⟩ fnM17).setCell ⟨D1.heap.size, 4, none⟩ fnS17).setCell ⟨D1.heap.size, 5, none⟩ fnO17).setCell ⟨D1.heap.size, 6, none⟩ (.slice la cn lc)).setCell ⟨D1.heap.size, 7, none⟩ (.bool nd)).setCell ⟨D1.heap.size, 8, none⟩ (.slice ad ld cd)).setCell ⟨D1.heap.size, 9, none⟩ (.slice va pl vc)) = V12 := ⟨_, rfl⟩
      obtain ⟨t1, t2, t3⟩ := ten_set DX.out SX.out _ _ _ _ _ _ _ _ _ _ V12 hW
      have FN4 : Hid (MetE (wha rn (upP rn cn P) (upP rn cn Q)) w1 cn rn rn KW (.pointer (some ⟨D1.heap.size, 0, none⟩)) V12) := ⟨_, nx, ax, lx, cx, _, nd, ad, ld, cd, _, gs, L, d, pv, rfl, SX.out, t1, EE.out.2.2.ty t2 (by decide), EE.out.1.keep fun b L _ e => t2.2 b _ _ _ e (by decide), EE.out.2.1.ty t2 (by decide) (by decide) (by decide), ELS.out, GB.out.trans t3⟩
      clear t1 t2 t3
      rw [hW]
      clear hW
      refine hK.out _ _ (fun h => absurd h (by decide)) ?_
      clear hK
      try simp only [Act.put]
      refine wpAnyT_done (by kernel_rfl) ?_ _
      clear GB GZ DX SX EE ELS
      go_wp2_with fail
      go_meet
      exact FN4.out
  case rest =>
  rename World => W2
  obtain ⟨b6, nx, ax, lx, cx, lv, nd, ad, ld, cd, vv, gs, L, d, pv, rfl, hb6, e1, e3, e4, e5, es, bb⟩ := hcut
  obtain ⟨la, lc, rfl⟩ : ∃ la lc, lv = .slice la cn lc := by
    rcases e5.1 with ⟨rfl, h⟩ | ⟨h, Lb, cap, r, e, _⟩
    · exact ⟨_, _, h⟩
    · exact ⟨_, _, e⟩
  obtain ⟨va, vc, rfl, -, -⟩ := e4.form
  obtain ⟨pl, hpl⟩ : ∃ pl, pv.length = pl := ⟨_, rfl⟩
  have HPL := hid hpl
  have hpc : pl ≤ cn := by have := es.rr.len; omega
  have hfl : (frL rn pv).length + pl = rn := by have := es.rr.frees; omega
  have hpn : pl ≤ rn := by omega
  rw [hpl] at e1 e4
  have CE := hid e1
  have ZD := hid e3
  have SH := hid e5
  have IV := hid e4
  have ES := hid es
  have CQ2 := hid (CQ1.out.step bb)
  have C2 := hid (C1.out.step bb)
  have G2 := hid (below_step G1.out bb)
  have HB6 := hid hb6
  have HFL := hid hfl
  have EQV : Hid (Eqv rn cn (rq L d) (Q17.upq rn (qfr cn P Q))) := es.eq.trans up_eqv
  have ERR : Hid (Rref cn rn (rq L d) pv) := es.rr
  have z9 := CE.out.at (i := 9) rfl
  have z0 := CQ2.out.at (i := 0) rfl
  clear e1 e3 e4 e5 es bb hpl y0 y1 y2 CQ1 C1 hb6 hfl
  obtain ⟨V3, hV3⟩ : ∃ V3, W2.alloc (.cells #[.int .i64 ((rn : Int) - (pl : Int)), .int .i64 (rn : Int), .slice none 0 0] 24) = V3 := ⟨_, rfl⟩
  obtain ⟨b3, sz3⟩ := alo1 W2 (.cells #[.int .i64 ((rn : Int) - (pl : Int)), .int .i64 (rn : Int), .slice none 0 0] 24)
  rw [hV3] at b3 sz3
  have C3 : Cel V3 W2.heap.size 24 [.int .i64 ((rn : Int) - (pl : Int)), .int .i64 (rn : Int), .slice none 0 0] := by rw [← hV3]; exact Cel.new W2 _ _
  have H0 : Hid (∃ t : Nat, Value.int .i64 0 = .int .i64 (t : Int) ∧ t ≤ rn ∧ rn = rn - t ∧ ∃ s, KnJ w w.heap.size (w.heap.size + 1) b6 W2.heap.size rn cn a l cap L d KW t s nx ax lx cx la lc nd ad ld cd va pl vc gs pv w1 V3) := ⟨0, rfl, Nat.zero_le _, rfl, _, CQ2.out.step b3, C2.out.step b3, CE.out.step b3, C3, ZD.out.now b3, SH.out.now b3, IV.out.now b3, ⟨fun _ _ => .bool false, by show Own4 _ _ _ (0 * rn) _; rw [Nat.zero_mul]; exact Own4.nil _ _ _, fun j hj => by exfalso; have : j < 0 * rn := hj; omega⟩, below_step G2.out b3⟩
  have HW2 : Hid (w.heap.size ≤ W2.heap.size) := G2.out.size
  have HNE : Hid (W2.heap.size ≠ w.heap.size ∧ W2.heap.size ≠ w.heap.size + 1) := by unfold Hid; have := C2.out.blk; omega
  obtain ⟨b7, hb7⟩ : ∃ b7, W2.heap.size = b7 := ⟨_, rfl⟩
  rw [hb7] at H0 HW2 HNE
  have zz0 := (CQ2.out.step b3).at (i := 0) rfl
  rw [← hV3] at zz0
  have EV3 := hid hV3
  have E7 := hid hb7
  have HES := hid ES.out.nz
  clear hV3 b3 sz3 C3 CE ZD SH ES IV CQ2 C2 G2 HB6 hb7
  go_wp2_with fail
  rw [EV3.out, E7.out]
  clear EV3 E7 zz0 z9 z0
  go_loopg [33] rn (fun gk s33 wx => ∃ t : Nat, s33 = .int .i64 (t : Int) ∧ t ≤ rn ∧ gk = rn - t ∧ ∃ s, KnJ w w.heap.size (w.heap.size + 1) b6 b7 rn cn a l cap L d KW t s nx ax lx cx la lc nd ad ld cd va pl vc gs pv w1 wx)
  case atStart => exact H0.out
  case round =>
    clear H0
    obtain ⟨t, rfl, htn, rfl, s, hq, h2, h5, h7, hzd, hsh, hiv, ⟨C, hO, hZ⟩, hb⟩ := hrel
    have CQ := hid hq
    have C2 := hid h2
    have C5 := hid h5
    have C7 := hid h7
    have ZD := hid hzd
    have SH := hid hsh
    have IV := hid hiv
    have OW := hid hO
    have ZZ := hid hZ
    have G := hid hb
    obtain ⟨sa, sc, rfl, -, -, -⟩ := hO.form
    obtain ⟨sl, hsl⟩ : ∃ sl, (frL t pv).length * rn = sl := ⟨_, rfl⟩
    have HSL := hid hsl
    rw [hsl] at OW ZZ C7
    clear hq h2 h5 h7 hzd hsh hiv hO hZ hb hsl
    by_cases hlt : t < rn
    · have hlt' : (t : Int) < (rn : Int) := by omega
      have hwt := wrapI9 (i := t) (by omega)
      have k9 := C5.out.at (i := 9) rfl
      have HCT := hid (contains17 (x := t) IV.out HPL.out (by omega))
      have HMM : Hid (rn - (t + 1) < rn - t) := by unfold Hid; omega
      go_wp2_with fail
      refine HCT.out.mono ?_
      rintro e wc ⟨rfl, rfl⟩
      clear HCT
      by_cases hin : t ∈ pv
      · have hd1 : decide (t ∈ pv) = true := decide_eq_true hin
        rw [hd1]
        have HN1 : Hid (∃ t' : Nat, Value.int .i64 ((t + 1 : Nat) : Int) = .int .i64 (t' : Int) ∧ t' ≤ rn ∧ rn - (t + 1) = rn - t' ∧ ∃ s, KnJ w w.heap.size (w.heap.size + 1) b6 b7 rn cn a l cap L d KW t' s nx ax lx cx la lc nd ad ld cd va pl vc gs pv w1 wc) := by
          have e : frL (t + 1) pv = frL t pv := by rw [Q17.frL_succ, if_pos hin]
          refine ⟨t + 1, rfl, by omega, rfl, _, CQ.out, C2.out, C5.out, C7.out, ZD.out, SH.out, IV.out, ⟨C, by rw [e, HSL.out]; exact OW.out, fun j hj => ?_⟩, G.out⟩
          rw [e, HSL.out] at hj
          rw [knR_skip hin]
          exact ZZ.out j hj
        clear CQ C2 C5 C7 ZD SH IV OW ZZ G k9 hd1
        go_wp2_with fail
        go_roundg (rn - (t + 1))
        case rel => exact HN1.out
        case measure => exact HMM.out
      · have hd1 : decide (t ∈ pv) = false := decide_eq_false hin
        rw [hd1]
        have k7 := C5.out.at (i := 7) rfl
        have k8 := C5.out.at (i := 8) rfl
        have HNG := hid (neg_z ZD.out.zi)
        have HFR : Hid (t ∉ pv) := hin
        clear hd1 hin
        go_wp2_with fail
        refine HNG.out.mono ?_
        rintro e w2 ⟨rl, rfl, hzl, bl⟩
        obtain ⟨nl, al, ll, cl, rfl⟩ : ∃ nl al ll cl, rl = .agg #[.bool nl, .slice al ll cl] := by
          obtain ⟨nl, xl, al, cl, e, _⟩ := hzl
          exact ⟨nl, al, _, cl, e⟩
        obtain ⟨V8, hV8⟩ : ∃ V8, w2.alloc (.cells #[.bool nl, .slice al ll cl] 45) = V8 := ⟨_, rfl⟩
        obtain ⟨bl8, sz8⟩ := alo1 w2 (.cells #[.bool nl, .slice al ll cl] 45)
        rw [hV8] at bl8 sz8
        have BB := below_step bl bl8
        obtain ⟨b8, hb8⟩ : ∃ b8, w2.heap.size = b8 := ⟨_, rfl⟩
        have C8 : Hid (Cel V8 b8 45 [.bool nl, .slice al ll cl]) := by unfold Hid; rw [← hV8, ← hb8]; exact Cel.new w2 _ _
        have ZL : Hid (Zm 0 V8 (.agg #[.bool nl, .slice al ll cl]) (-d) KW) := (Zm.mono hzl (Nat.zero_le _)).now bl8
        replace CQ := hid (CQ.out.step BB)
        replace C2 := hid (C2.out.step BB)
        replace C5 := hid (C5.out.step BB)
        replace C7 := hid (C7.out.step BB)
        replace ZD := hid (ZD.out.now BB)
        replace SH := hid (SH.out.now BB)
        replace IV := hid (IV.out.now BB)
        replace OW := hid (OW.out.now BB)
        replace ZZ := hid (fun j (hj : j < sl) => (⟨(ZZ.out j hj).1.now BB, (ZZ.out j hj).2.now BB⟩ : _ ∧ _))
        replace G := hid (below_step G.out BB)
        have HAT := hid (atPivots17 (nx := nx) (ax := ax) (lx := lx) (cx := cx) (nd := nd) (ad := ad) (ld := ld) (cd := cd) SH.out IV.out HPL.out hpc (fun i hi => ERR.out.lt i _ (by rw [List.getD_eq_getElem?_getD, List.getElem?_eq_getElem (by rw [HPL.out]; exact hi)]; rfl)) (fun i hi => ERR.out.idx (by rw [List.getD_eq_getElem?_getD, List.getElem?_eq_getElem (by rw [HPL.out]; exact hi)]; rfl)) hlt hr (by omega) hcn)
        have q0 := C5.out.at (i := 0) rfl
        have q1 := C5.out.at (i := 1) rfl
        have q2 := C5.out.at (i := 2) rfl
        have q3 := C5.out.at (i := 3) rfl
        have q4 := C5.out.at (i := 4) rfl
        have q5 := C5.out.at (i := 5) rfl
        have q6 := C5.out.at (i := 6) rfl
        have q7 := C5.out.at (i := 7) rfl
        have q8 := C5.out.at (i := 8) rfl
        have q9 := C5.out.at (i := 9) rfl
        have p0 := CQ.out.at (i := 0) rfl
        rw [← hV8] at q0 q1 q2 q3 q4 q5 q6 q7 q8 q9 p0
        have EV8 := hid hV8
        have E8 := hid hb8
        have HL8 : Hid (b8 < V8.heap.size) := C8.out.blk
        clear hzl bl bl8 sz8 hV8 hb8 BB HNG k7 k8 k9
        go_wp2_with fail
        rw [EV8.out, E8.out]
        refine HAT.out.mono ?_
        rintro e w3 ⟨gx, rfl, hgx, hrw, b9⟩
        obtain ⟨mo, ao, lo, co, o0, o1, o2, o3, _⟩ := hrw.at hlt
        have i0 := (C8.out.step b9).at (i := 0) rfl
        have i1 := (C8.out.step b9).at (i := 1) rfl
        obtain ⟨V9, hV9⟩ : ∃ V9, (w3.setCell ⟨gx, t * 2, none⟩ (.bool nl)).setCell ⟨gx, t * 2 + 1, none⟩ (.slice al ll cl) = V9 := ⟨_, rfl⟩
        have B9 : Below V8.heap.size V8 V9 := by rw [← hV9]; exact bset (bset b9 hgx) hgx
        have RWX : Hid (Rw17 V9 gx rn (xzF pv L d t) KW) := by
          unfold Hid
          rw [← hV9]
          exact (hrw.put hlt (ZL.out.now b9)).1.congr fun j hj => rfl
        replace C8 := hid (C8.out.step B9)
        replace ZL := hid (ZL.out.now B9)
        replace CQ := hid (CQ.out.step B9)
        replace C2 := hid (C2.out.step B9)
        replace C5 := hid (C5.out.step B9)
        replace C7 := hid (C7.out.step B9)
        replace ZD := hid (ZD.out.now B9)
        replace SH := hid (SH.out.now B9)
        replace IV := hid (IV.out.now B9)
        replace OW := hid (OW.out.now B9)
        replace ZZ := hid (fun j (hj : j < sl) => (⟨(ZZ.out j hj).1.now B9, (ZZ.out j hj).2.now B9⟩ : _ ∧ _))
        replace G := hid (below_step G.out B9)
        have EV9 := hid hV9
        clear hrw b9 hV9 B9 HAT q0 q1 q2 q3 q4 q5 q6 q7 q8 q9 p0 EV8 E8
        go_wp2_with fail
        rw [EV9.out]
        have k2 := C7.out.at (i := 2) rfl
        have k7 := C8.out.at (i := 0) rfl
        have k8 := C8.out.at (i := 1) rfl
        have HNZ := hid HES.out
        have HNZ2 : Hid (-d ≠ 0) := by unfold Hid; have := HES.out; omega
        have HSN : Hid (sl + rn = (frL (t + 1) pv).length * rn) := by unfold Hid; rw [Q17.frL_succ, if_neg HFR.out, List.length_append, ← HSL.out, Nat.add_mul]; simp
        have HTN : Hid ((frL (t + 1) pv).length * rn ≤ 64 * 64) := Nat.mul_le_mul (by have := frL_len_le (t + 1) pv; omega) hr
        have HGW : Hid (w.heap.size ≤ V9.heap.size) := G.out.size
        have hnpos : 0 < rn := by omega
        clear o0 o1 o2 o3 i0 i1 EV9 hgx
        have KB : Hid (∀ w', Below V9.heap.size V9 w' → w'.cell? ⟨b7, 2, none⟩ = some (.slice sa sl sc) ∧ w'.cell? ⟨b8, 0, none⟩ = some (.bool nl) ∧ w'.cell? ⟨b8, 1, none⟩ = some (.slice al ll cl)) := fun w' h => ⟨cnow h k2, cnow h k7, cnow h k8⟩
        refine wp_region_tail (fun w' => w'.cell? ⟨b7, 2, none⟩ = some (.slice sa sl sc) ∧ w'.cell? ⟨b8, 0, none⟩ = some (.bool nl) ∧ w'.cell? ⟨b8, 1, none⟩ = some (.slice al ll cl)) 7 (by kernel_rfl) ?_
        obtain ⟨D61, hD⟩ : ∃ D61, V9.drew = D61 := ⟨_, rfl⟩
        have GB : Hid (Below V9.heap.size V9 D61) := by unfold Hid; rw [← hD]; exact (Below.refl _ _).drew
        rw [hD]
        clear hD
        have KC := hid (KB.out _ GB.out)
        have GZ : Hid (V9.heap.size ≤ D61.heap.size) := GB.out.size
        refine wpAnyT_take (i := 0) (oi := { dst := some 52, op := Op.fieldAddr 24 (Operand.tmp 6) 2, type := 0, pos := "rref.go:71", after := #[], guard := none }) (v := (.pointer (some ⟨b7, 2, none⟩))) rfl (by kernel_rfl) (fun _ _ _ h => h) (Or.inl ⟨by rfl, ?_⟩) (KC.out) ?_
        · intro w hSw
          (try dsimp only at hSw)
          go_simp
        simp only [Act.put, List.setIfInBounds_toArray, List.set_cons_zero, List.set_cons_succ]
        refine wpAnyT_take (i := 1) (oi := { dst := some 53, op := Op.load 22 (Operand.tmp 52), type := 22, pos := "rref.go:71", after := #[{ on := 0, ground := Ground.data }], guard := none }) (v := (.slice sa sl sc)) rfl (by kernel_rfl) (fun _ _ _ h => h) (Or.inl ⟨by rfl, ?_⟩) (KC.out) ?_
        · intro w hSw
          (try dsimp only at hSw)
          go_simp
        simp only [Act.put, List.setIfInBounds_toArray, List.set_cons_zero, List.set_cons_succ]
        refine wpAnyT_take (i := 2) (oi := { dst := some 54, op := Op.move (Operand.tmp 9), type := 33, pos := "rref.go:71", after := #[], guard := none }) (v := (.slice (some ⟨gx, 0, none⟩) rn rn)) rfl (by kernel_rfl) (fun _ _ _ h => h) (Or.inl ⟨by rfl, ?_⟩) (KC.out) ?_
        · intro w hSw
          (try dsimp only at hSw)
          go_simp
        simp only [Act.put, List.setIfInBounds_toArray, List.set_cons_zero, List.set_cons_succ]
        refine wpAnyT_take (i := 3) (oi := { dst := some 55, op := Op.load 45 (Operand.tmp 8), type := 45, pos := "rref.go:71", after := #[], guard := none }) (v := (.agg #[.bool nl, .slice al ll cl])) rfl (by kernel_rfl) (fun _ _ _ h => h) (Or.inl ⟨by rfl, ?_⟩) (KC.out) ?_
        · intro w hSw
          (try dsimp only at hSw)
          go_simp
        simp only [Act.put, List.setIfInBounds_toArray, List.set_cons_zero, List.set_cons_succ]
        refine wpAnyT_one (i := 4) (o := { dst := some 56, op := Op.call { callee := Callee.value (Operand.func 31), args := #[Operand.tmp 54, Operand.tmp 55], argTypes := #[33, 45] }, type := 22, pos := "rref.go:71", after := #[{ on := 2, ground := Ground.data }, { on := 3, ground := Ground.data }], guard := none }) (by kernel_rfl) rfl (fun K hK => ?_)
        go_simp
        go_at_call 31
        refine (over_any (n := rn) ((RWX.out.now GB.out).zl17 (by omega)) (ZL.out.now GB.out).zi HNZ2.out HKW.out (by simp) (by omega)).mono ?_
        rintro e w62 ⟨go, rfl, hgn, hfq, b⟩
        have lz62 := (show Below _ _ _ from b).size
        replace GB := hid (below_step GB.out b)
        have FQ := hid hfq
        have HGN : Hid (V9.heap.size ≤ go) := by unfold Hid; have := GZ.out; omega
        replace GZ : Hid (V9.heap.size ≤ w62.heap.size) := GB.out.size
        replace KC := hid (KB.out _ GB.out)
        clear hfq hgn
        clear b
        refine hK.out _ _ (fun _ => KC.out) ?_
        clear hK
        refine wpAnyT_one (i := 5) (o := { dst := some 57, op := Op.call { callee := Callee.builtin Builtin.append, args := #[Operand.tmp 53, Operand.tmp 56], argTypes := #[22, 22] }, type := 22, pos := "rref.go:71", after := #[{ on := 1, ground := Ground.data }, { on := 4, ground := Ground.data }, { on := 4, ground := Ground.chain }], guard := none }) (by kernel_rfl) rfl (fun K hK => ?_)
        have OX := hid (OW.out.now GB.out)
        obtain ⟨D, kD1, kD2, kD3⟩ := FQ.out.cellsD
        have KD1 := hid kD1
        have KD2 := hid kD2
        have KD3 := hid kD3
        clear kD1 kD2 kD3
        have HBX : Hid (w.heap.size ≤ w62.heap.size) := by unfold Hid; have := GZ.out; have := HGW.out; omega
        refine step_append_four w62 rfl (.tmp 53) (.tmp 56) rfl w.heap.size sl rn rn go 0 (.slice sa sl sc) C D rfl OX.out rfl KD1.out KD2.out hnpos (by have := HTN.out; have := HSN.out; omega) HBX.out ?_
        intro g9 cap9 w63 l9 hl9 hO9 hg9 ho9
        have TG : Hid (Ty 47 w62 w63) := Ty.grown OX.out.1 hg9.out
        have BG : Hid (Below w.heap.size w w63) := Own4.below (below_step G.out GB.out) OX.out hg9.out HBX.out
        have M7 := hid ((C7.out.step GB.out).ty13 TG.out (by decide))
        have M5 := hid ((C5.out.step GB.out).ty13 TG.out (by decide))
        have MQ := hid ((CQ.out.step GB.out).ty13 TG.out (by decide))
        have M2 := hid ((C2.out.step GB.out).ty13 TG.out (by decide))
        have M8 := hid ((C8.out.step GB.out).ty13 TG.out (by decide))
        have MZ := hid ((ZD.out.now GB.out).ty TG.out (by decide))
        have MI := hid ((IV.out.now GB.out).ty17 TG.out (by decide))
        have MS := hid ((SH.out.now GB.out).ty TG.out (by decide) (by decide) (by decide))
        have MO := hid hO9.out
        have MC : Hid (∀ j, j < sl + rn → Zm 0 w63 (.agg #[cat4 sl C D j 0, cat4 sl C D j 1]) (knR rn L d pv (t + 1) j).num KW ∧ Zm 0 w63 (.agg #[cat4 sl C D j 2, cat4 sl C D j 3]) ((knR rn L d pv (t + 1) j).den : Int) KW) := fun j hj => by
          unfold cat4
          by_cases q : j < sl
          · simp only [q, if_true]
            have h := ZZ.out j q
            rw [knR_old HFR.out (by rw [HSL.out]; exact q)]
            exact ⟨(h.1.now GB.out).ty TG.out (by decide), (h.2.now GB.out).ty TG.out (by decide)⟩
          · simp only [q, if_false]
            have hjn : j - sl < rn := by omega
            have h := KD3.out (j - sl) hjn
            rw [knR_new HFR.out hnpos HNZ.out (by rw [HSL.out]; omega) (by rw [HSL.out]; omega), HSL.out]
            have e1 : ((List.range rn).map (xzF pv L d t)).getD (j - sl) 0 = xzF pv L d t (j - sl) := by simp [hjn]
            rw [e1] at h
            exact ⟨h.1.ty TG.out (by decide), h.2.ty TG.out (by decide)⟩
        replace KC := hid (⟨M7.out.at (i := 2) rfl, M8.out.at (i := 0) rfl, M8.out.at (i := 1) rfl⟩ : _ ∧ _ ∧ _)
        clear hl9 hO9 hg9 ho9 OX KD1 KD2 KD3 TG FQ GZ HBX
        refine hK.out _ _ (fun _ => KC.out) ?_
        clear hK
        refine wpAnyT_take (i := 6) (oi := { dst := some 58, op := Op.fieldAddr 24 (Operand.tmp 6) 2, type := 0, pos := "rref.go:71", after := #[{ on := 0, ground := Ground.phase }, { on := 1, ground := Ground.phase }, { on := 2, ground := Ground.phase }, { on := 3, ground := Ground.phase }, { on := 4, ground := Ground.phase }, { on := 5, ground := Ground.phase }], guard := none }) (v := (.pointer (some ⟨b7, 2, none⟩))) rfl (by kernel_rfl) (fun _ _ _ h => h) (Or.inl ⟨by rfl, ?_⟩) (KC.out) ?_
        · intro w hSw
          (try dsimp only at hSw)
          go_simp
        simp only [Act.put, List.setIfInBounds_toArray, List.set_cons_zero, List.set_cons_succ]
        refine wpAnyT_one (i := 7) (o := { dst := none, op := Op.store 22 (Operand.tmp 58) (Operand.tmp 57), type := 0, pos := "rref.go:71", after := #[{ on := 6, ground := Ground.data }, { on := 5, ground := Ground.data }, { on := 5, ground := Ground.chain }, { on := 0, ground := Ground.phase }, { on := 1, ground := Ground.phase }, { on := 2, ground := Ground.phase }, { on := 3, ground := Ground.phase }, { on := 4, ground := Ground.phase }, { on := 5, ground := Ground.phase }], guard := none }) (by kernel_rfl) rfl (fun K hK => ?_)
        have h0 := M7.out.at (i := 2) rfl
        have h1 := M7.out.fz 2
        go_simp
        clear h0 h1
        obtain ⟨V64, hW⟩ : ∃ V64, (w63.setCell ⟨b7, 2, none⟩ (.slice (some ⟨g9, 0, none⟩) l9 cap9)) = V64 := ⟨_, rfl⟩
        have HN1 : Hid (∃ t' : Nat, Value.int .i64 ((t + 1 : Nat) : Int) = .int .i64 (t' : Int) ∧ t' ≤ rn ∧ rn - (t + 1) = rn - t' ∧ ∃ s, KnJ w w.heap.size (w.heap.size + 1) b6 b7 rn cn a l cap L d KW t' s nx ax lx cx la lc nd ad ld cd va pl vc gs pv w1 V64) := by
          unfold Hid
          have ty : Ty 24 w63 V64 := by rw [← hW]; exact Ty.set M7.out
          have q1 : Cel V64 w.heap.size 24 [.int .i64 (rn : Int), .int .i64 (cn : Int), .slice a l cap] := by rw [← hW]; exact MQ.out.ne HNE.out.1
          have q2 : Cel V64 (w.heap.size + 1) 24 [.int .i64 0, .int .i64 0, .slice none 0 0] := by rw [← hW]; exact M2.out.ne HNE.out.2
          refine ⟨t + 1, rfl, by omega, rfl, _, q1, q2, M5.out.ty13 ty (by decide), by rw [← hW]; exact M7.out.set 2 _, MZ.out.ty ty (by decide), MS.out.ty ty (by decide) (by decide) (by decide), MI.out.ty17 ty (by decide), ⟨cat4 sl C D, by rw [← HSN.out]; exact MO.out.ty ty (by decide), fun j hj => ?_⟩, ?_⟩
          · rw [← HSN.out] at hj
            exact ⟨(MC.out j hj).1.ty ty (by decide), (MC.out j hj).2.ty ty (by decide)⟩
          · rw [← hW]; exact bset BG.out HW2.out
        rw [hW]
        clear hW
        refine hK.out _ _ (fun h => absurd h (by decide)) ?_
        clear hK
        try simp only [Act.put]
        refine wpAnyT_done (by kernel_rfl) ?_ _
        clear GB KB KC M7 M5 MQ M2 M8 MZ MI MS MO MC BG CQ C2 C5 C7 C8 ZD SH IV OW ZZ G RWX ZL k2 k7 k8
        go_wp2_with fail
        go_roundg (rn - (t + 1))
        case rel => exact HN1.out
        case measure => exact HMM.out
    · have hlt' : ¬ (t : Int) < (rn : Int) := by omega
      obtain rfl : t = rn := by omega
      have y2 := C7.out.at (i := 2) rfl
      have HSS : Hid (sl ≤ 1048576) := by
        unfold Hid
        rw [← HSL.out]
        exact Nat.le_trans (Nat.mul_le_mul (by have := frL_len_le t pv; omega) hr) (by omega : 64 * 64 ≤ 1048576)
      have HRV := hid (reverse4 OW.out HSS.out)
      go_wp2_with fail
      refine HRV.out.mono ?_
      rintro e w9 ⟨rfl, hO, hT⟩
      have TY := OW.out.tyT hT
      have MO := hid hO
      have M7 := hid (C7.out.ty13 TY (by decide))
      have M2 := hid (C2.out.ty13 TY (by decide))
      have G9 : Hid (Below w.heap.size w w9) := G.out.trans (hT.below17 (fun b hb => (OW.out.own hb).1) G.out.size)
      have MZ := hid (fun j (hj : j < sl) => (⟨(ZZ.out j hj).1.ty TY (by decide), (ZZ.out j hj).2.ty TY (by decide)⟩ : _ ∧ _))
      have y0 := M7.out.at (i := 0) rfl
      have y1 := M7.out.at (i := 1) rfl
      have yy2 := M7.out.at (i := 2) rfl
      have c0 := M2.out.at (i := 0) rfl
      have c1 := M2.out.at (i := 1) rfl
      have c2 := M2.out.at (i := 2) rfl
      have f0 := M2.out.fz 0
      have f1 := M2.out.fz 1
      have f2 := M2.out.fz 2
      obtain ⟨V, hV⟩ : ∃ V, ((w9.setCell ⟨w.heap.size + 1, 0, none⟩ (.int .i64 ((t : Int) - (pl : Int)))).setCell ⟨w.heap.size + 1, 1, none⟩ (.int .i64 (t : Int))).setCell ⟨w.heap.size + 1, 2, none⟩ (.slice sa sl sc) = V := ⟨_, rfl⟩
      have DR : Hid (Cel V (w.heap.size + 1) 24 [.int .i64 ((t : Int) - (pl : Int)), .int .i64 (t : Int), .slice sa sl sc]) := by unfold Hid; rw [← hV]; exact ((M2.out.set 0 _).set 1 _).set 2 _
      have FF : Hid (Knd w t cn P Q KW (.returned (.tuple #[.agg #[.int .i64 ((t : Int) - (pl : Int)), .int .i64 (t : Int), .slice sa sl sc], .int .i64 0])) V) := by
        have ty : Ty 24 w9 V := by rw [← hV]; exact ((Ty.set M2.out).trans (Ty.set (M2.out.set 0 _))).trans (Ty.set ((M2.out.set 0 _).set 1 _))
        have em : ((t : Int) - (pl : Int)) = (((frL t pv).length : Nat) : Int) := by have := HFL.out; omega
        refine ⟨rq L d, pv, (frL t pv).length, sa, sc, rv4 sl C, ERR.out, EQV.out, rfl, by rw [em, HSL.out], by rw [HSL.out]; exact MO.out.ty ty (by decide), fun j hj => ?_, ?_⟩
        · have hj' := hj
          rw [HSL.out] at hj'
          have h := MZ.out (sl - 1 - j) (by omega)
          rw [show knR t L d pv t (sl - 1 - j) = Q17.kr t (rq L d) pv (j / t) (j % t) by rw [← HSL.out]; exact knR_rev rfl hj] at h
          exact ⟨h.1.ty ty (by decide), h.2.ty ty (by decide)⟩
        · rw [← hV]
          have h : w.heap.size ≤ w.heap.size + 1 := by omega
          exact bset (bset (bset G9.out h) h) h
      have EV := hid hV
      clear hV CQ C2 C5 C7 ZD SH IV OW ZZ G HRV hO hT TY MO M7 G9 MZ y2
      go_wp2
      rw [EV.out]
      exact bodyPost_ret (qback2 Tryz.results17 DR.out _ (by rfl) (by rfl)) rfl FF.out
end Go.Proofs.YtcceoildbnoliaaGreat
