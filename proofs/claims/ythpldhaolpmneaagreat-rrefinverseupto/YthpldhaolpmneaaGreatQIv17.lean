/-
  Iv17: Inverse.
-/
import Derived.Test.YthpldhaolpmneaaGreatQFo17
import Derived.Test.YthpldhaolpmneaaGreatQBs17
namespace Go.Proofs.YthpldhaolpmneaaGreat
open Go.RowKit
open Q17 (Rref Eqv Comb)
set_option linter.unusedVariables false
set_option linter.unusedSimpArgs false
attribute [local go_sem] st_fn17

theorem Rw17.tail {w : World} {g n k : Nat} {F : Nat → Int} (h : Rw17 w g (2 * n) F k) (hn : n ≤ 64) : Zl w (.slice (some ⟨g, n * 2, none⟩) n n) ((List.range n).map fun j => F (n + j)) k := by
  obtain ⟨ps, h1, h2⟩ := h
  have hl : ps.length = 2 * n := by rw [h2.1]; simp
  have hp := h1.prs (B := 0) (Nat.zero_le _) (by omega) (Nat.le_refl _)
  rw [hl] at hp
  have hq := hp.piece (i := n) (n := n) (by omega)
  rw [Nat.zero_add, show 2 * n - n = n by omega] at hq
  refine zl_of hq ⟨by simp; omega, fun j p z hpj hzj => ?_⟩
  have hj : j < n := by have := (List.getElem?_eq_some_iff.1 hzj).1; simpa using this
  rw [List.getElem?_take, if_pos hj, List.getElem?_drop] at hpj
  have hz : ((List.range (2 * n)).map F)[n + j]? = some z := by
    rw [List.getElem?_map, List.getElem?_range hj] at hzj
    rw [List.getElem?_map, List.getElem?_range (by omega)]
    exact hzj
  exact (h2.2 (n + j) p z hpj hz).zi
theorem slice_tail17 (w : World) (g n : Nat) (h0 : 0 < n) : (Instr.slice 33 (.slice (some ⟨g, 0, none⟩) (2 * n) (2 * n)) (some (.int .i64 (n : Int))) none none).run Tryz.prog w = .ok (.slice (some ⟨g, n * 2, none⟩) n n) w := by
  have i1 : (0 : Int) ≤ (n : Int) := by omega
  have i4 : ¬ 2 * n = n := by omega
  have i6 : 2 * n - n = n := by omega
  have i7 : (n : Int) ≤ ((2 * n : Nat) : Int) := by omega
  obtain ⟨m, hm⟩ : ∃ m, 2 * n = m := ⟨_, rfl⟩
  rw [hm] at i4 i6 i7 ⊢
  clear hm
  go_simp
def InJ (w : World) (bq b2 b5 b6 n : Nat) (a : Option Addr) (l cap : Nat) (L : Nat → Nat → Int) (d : Int) (k t : Nat) (s : Value) (nx : Bool) (ax : Option Addr) (lx cx : Nat) (la : Option Addr) (lc : Nat) (nd : Bool) (ad : Option Addr) (ld cd : Nat) (va : Option Addr) (pl vc : Nat) (gs : Nat → Nat) (W wx : World) : Prop :=
  Cel wx bq 24 [.int .i64 (n : Int), .int .i64 (n : Int), .slice a l cap] ∧ Cel wx b2 24 [.int .i64 0, .int .i64 0, .slice none 0 0] ∧ Cel wx b5 69 [.bool nx, .slice ax lx cx, fnZ17, fnM17, fnS17, fnO17, .slice la n lc, .bool nd, .slice ad ld cd, .slice va pl vc]
  ∧ Cel wx b6 24 [.int .i64 (n : Int), .int .i64 (n : Int), s] ∧ Zm 0 wx (.agg #[.bool nd, .slice ad ld cd]) d k ∧ Sh17 W.heap.size wx (.slice la n lc) n (2 * n) gs L k
  ∧ (∃ C, Own4 w.heap.size wx s (t * n) C ∧ ∀ j, j < t * n → Zm 0 wx (.agg #[C j 0, C j 1]) (Rat.divInt (L (j / n) (n + j % n)) d).num k ∧ Zm 0 wx (.agg #[C j 2, C j 3]) ((Rat.divInt (L (j / n) (n + j % n)) d).den : Int) k) ∧ Below w.heap.size w wx

theorem FltIs.one {B N : Prop} {f : Bool} {c : Int} (h : FltIs (∃ j, j < 1 ∧ B) (∃ j, j < 1 ∧ N) f c) : FltIs B N f c := by
  have hB : (∃ j, j < 1 ∧ B) ↔ B := ⟨fun ⟨_, _, h⟩ => h, fun h => ⟨0, by omega, h⟩⟩
  have hN : (∃ j, j < 1 ∧ N) ↔ N := ⟨fun ⟨_, _, h⟩ => h, fun h => ⟨0, by omega, h⟩⟩
  unfold FltIs at *
  rw [hB, hN] at h
  exact h
set_option maxHeartbeats 1600000 in
set_option maxRecDepth 100000 in
theorem inverse_bad {w : World} {r c : Int} {a : Option Addr} {l cap k : Nat} {P Q : Nat → Int} (hv : Qs w (.slice a l cap) l P Q k) (hb : ¬ Snd r c l ∨ r ≠ c ∨ ∃ t, t < l ∧ Q t = 0) :
    Calls Tryz.prog 24 #[.agg #[.int .i64 r, .int .i64 c, .slice a l cap]] w fun e w' => ∃ code : Int, e = .returned (.tuple #[qm0, .int .i64 code]) ∧ code ≠ 0 ∧ FltIs (¬ Snd r c l) (∃ t, t < l ∧ Q t = 0) (decide (r = c)) code ∧ Below w.heap.size w w' := by
  obtain ⟨W1, hW⟩ : ∃ W1, ((w.alloc (.cells #[.int .i64 r, .int .i64 c, .slice a l cap] 24)).alloc (.cells #[.int .i64 0, .int .i64 0, .slice none 0 0] 24)).alloc (.cells #[.int .i64 r, .int .i64 c, .slice a l cap] 24) = W1 := ⟨_, rfl⟩
  obtain ⟨b0, sz0⟩ := alloc3 w (.cells #[.int .i64 r, .int .i64 c, .slice a l cap] 24) (.cells #[.int .i64 0, .int .i64 0, .slice none 0 0] 24) (.cells #[.int .i64 r, .int .i64 c, .slice a l cap] 24)
  rw [hW] at b0 sz0
  have CQ : Hid (Cel W1 w.heap.size 24 [.int .i64 r, .int .i64 c, .slice a l cap]) := by
    unfold Hid; rw [← hW]
    exact ((Cel.new w 24 [.int .i64 r, .int .i64 c, .slice a l cap]).step (alo1 _ _).1).step (alo1 _ _).1
  have C0 : Hid (Cel W1 (w.heap.size + 1) 24 [.int .i64 0, .int .i64 0, .slice none 0 0]) := by
    unfold Hid; rw [← hW]
    have := (Cel.new (w.alloc (.cells #[.int .i64 r, .int .i64 c, .slice a l cap] 24)) 24 [.int .i64 0, .int .i64 0, .slice none 0 0]).step (alo1 _ (.cells #[.int .i64 r, .int .i64 c, .slice a l cap] 24)).1
    simpa using this
  have CA : Cel W1 (w.heap.size + 1 + 1) 24 [.int .i64 r, .int .i64 c, .slice a l cap] := by
    rw [← hW]
    have := Cel.new ((w.alloc (.cells #[.int .i64 r, .int .i64 c, .slice a l cap] 24)).alloc (.cells #[.int .i64 0, .int .i64 0, .slice none 0 0] 24)) 24 [.int .i64 r, .int .i64 c, .slice a l cap]
    simpa using this
  have HF := hid (fault17 (w := W1) (w0 := W1) (g := w.heap.size + 1 + 1) (n := 1) (k := k) (q := fun _ => ⟨r, c, a, l, cap⟩) (P := fun _ => P) (Q := fun _ => Q) (fits := decide (r = c)) (by omega) (fun j hj => by
    obtain rfl : j = 0 := by omega
    exact ⟨CA.at (i := 0) rfl, CA.at (i := 1) rfl, CA.at (i := 2) rfl⟩) (fun j hj => hv.now b0))
  have B0 := hid b0
  have EW := hid hW
  have x0 := CQ.out.at (i := 0) rfl
  have x1 := CQ.out.at (i := 1) rfl
  have x2 := CQ.out.at (i := 2) rfl
  rw [← hW] at x0 x1 x2
  clear b0 sz0 hW CA
  go_enter Tryz.func24, Tryz.ntmps24
  go_wp2_with fail
  rw [EW.out]
  refine HF.out.mono ?_
  rintro e w1 ⟨code, rfl, hcode, b1⟩
  have hco := FltIs.one hcode
  have hc0 : code ≠ 0 := by
    rcases hco with ⟨h1, h2⟩ | ⟨h1, h2, h3⟩ | ⟨h1, h2, h3, h4⟩ | ⟨h1, h2, h3, h4⟩
    · omega
    · omega
    · omega
    · rcases hb with q | q | q
      · exact absurd q h2
      · exact absurd (of_decide_eq_true h3) q
      · exact absurd q h4
  have C2 := C0.out.step b1
  have c0 := C2.at (i := 0) rfl
  have c1 := C2.at (i := 1) rfl
  have c2 := C2.at (i := 2) rfl
  have f0 := C2.fz 0
  have f1 := C2.fz 1
  have f2 := C2.fz 2
  have hne : (code != 0) = true := by simp [hc0]
  obtain ⟨V, hV⟩ : ∃ V, ((w1.setCell ⟨w.heap.size + 1, 0, none⟩ (.int .i64 0)).setCell ⟨w.heap.size + 1, 1, none⟩ (.int .i64 0)).setCell ⟨w.heap.size + 1, 2, none⟩ (.slice none 0 0) = V := ⟨_, rfl⟩
  have DR : Hid (Cel V (w.heap.size + 1) 24 [.int .i64 0, .int .i64 0, .slice none 0 0]) := by unfold Hid; rw [← hV]; exact ((C2.set 0 _).set 1 _).set 2 _
  have FF : Hid (∃ code' : Int, (Ending.returned (.tuple #[qm0, .int .i64 code])) = .returned (.tuple #[qm0, .int .i64 code']) ∧ code' ≠ 0 ∧ FltIs (¬ Snd r c l) (∃ t, t < l ∧ Q t = 0) (decide (r = c)) code' ∧ Below w.heap.size w V) := by
    refine ⟨code, rfl, hc0, hco, ?_⟩
    rw [← hV]
    have h : w.heap.size ≤ w.heap.size + 1 := by omega
    exact bset (bset (bset (below_step B0.out b1) h) h) h
  have EV := hid hV
  have hne2 : ¬ code = 0 := hc0
  clear HF hcode hco b1 hc0 hb C2 hV EW B0 C0
  go_wp2
  rw [EV.out]
  exact bodyPost_ret (qback2 Tryz.results24 DR.out _ (by rfl) (by rfl)) rfl FF.out

/-- The rows of fractions with the unit beside them. -/
def qbu (n : Nat) (P Q : Nat → Int) (i j : Nat) : Rat := if j < n then qfr n P Q i j else if j - n = i then 1 else 0
theorem bu_rat (n : Nat) (P Q : Nat → Int) (i j : Nat) : Rat.divInt (buP n P i j) (buQ n Q i j) = qbu n P Q i j := by
  unfold buP buQ qbu
  by_cases q : j < n
  · rw [if_pos q, if_pos q, if_pos q]; rfl
  · rw [if_neg q, if_neg q, if_neg q]
    by_cases e : j - n = i
    · rw [if_pos e, if_pos e]; rfl
    · rw [if_neg e, if_neg e]; rfl
theorem whb_eqv {n : Nat} {P Q : Nat → Int} : Eqv (2 * n) n (qm (wha (2 * n) (buP n P) (buQ n Q))) (qbu n P Q) := by
  refine Q17.eqv_scale (d := fun i => ((lcn (fun j => Rat.divInt (buP n P i j) (buQ n Q i j)) (2 * n) : Int) : Rat)) (fun i hi => cast_ne (by have := lcn_pos (fun j => Rat.divInt (buP n P i j) (buQ n Q i j)) (2 * n); omega)) fun i j hi hj => ?_
  have h := whl_rat (fun j => Rat.divInt (buP n P i j) (buQ n Q i j)) hj
  unfold qm wha
  rw [h, ← bu_rat]
  grind
/-- What Inverse answers. -/
def Invd (w : World) (n : Nat) (P Q : Nat → Int) (k : Nat) (e : Ending) (w' : World) : Prop :=
  ∃ E pv, Rref n n E pv ∧ Eqv (2 * n) n E (qbu n P Q) ∧ Below w.heap.size w w' ∧ ((pv.length < n ∧ e = .returned (.tuple #[qm0, .int .i64 6])) ∨ (pv.length = n ∧ ∃ a cap C, e = .returned (.tuple #[qmv n n (.slice a (n * n) cap), .int .i64 0]) ∧ Own4 w.heap.size w' (.slice a (n * n) cap) (n * n) C ∧ ∀ t, t < n * n → Zm 0 w' (.agg #[C t 0, C t 1]) (E (t / n) (n + t % n)).num k ∧ Zm 0 w' (.agg #[C t 2, C t 3]) ((E (t / n) (n + t % n)).den : Int) k))
set_option maxHeartbeats 6400000 in
set_option maxRecDepth 100000 in
theorem inverse_yes {w : World} {n : Nat} {a : Option Addr} {l cap k KW : Nat} {P Q : Nat → Int} (hv : Qs w (.slice a l cap) l P Q k) (hl : l = n * n) (hn : n ≤ 64) (hQ : ∀ t, t < l → Q t ≠ 0) (hk : k ≤ 400000000) (hk1 : 1 ≤ k)
    (hK : ∀ f, ((dcl (wha (2 * n) (buP n P) (buQ n Q)) n (2 * n) f).natAbs : Int) < pw KW) (h1 : 1 ≤ KW) (hkw : KW ≤ 68719476736) :
    Calls Tryz.prog 24 #[qmv n n (.slice a l cap)] w (Invd w n P Q KW) := by
  have hS : Snd (n : Int) (n : Int) l := ⟨by omega, by omega, by omega, by omega, by rw [hl]; exact Int.natCast_mul _ _⟩
  show Calls Tryz.prog 24 #[.agg #[.int .i64 (n : Int), .int .i64 (n : Int), .slice a l cap]] w _
  obtain ⟨W1, hW⟩ : ∃ W1, ((w.alloc (.cells #[.int .i64 (n : Int), .int .i64 (n : Int), .slice a l cap] 24)).alloc (.cells #[.int .i64 0, .int .i64 0, .slice none 0 0] 24)).alloc (.cells #[.int .i64 (n : Int), .int .i64 (n : Int), .slice a l cap] 24) = W1 := ⟨_, rfl⟩
  obtain ⟨b0, sz0⟩ := alloc3 w (.cells #[.int .i64 (n : Int), .int .i64 (n : Int), .slice a l cap] 24) (.cells #[.int .i64 0, .int .i64 0, .slice none 0 0] 24) (.cells #[.int .i64 (n : Int), .int .i64 (n : Int), .slice a l cap] 24)
  rw [hW] at b0 sz0
  have CQ : Hid (Cel W1 w.heap.size 24 [.int .i64 (n : Int), .int .i64 (n : Int), .slice a l cap]) := by
    unfold Hid; rw [← hW]
    exact ((Cel.new w 24 [.int .i64 (n : Int), .int .i64 (n : Int), .slice a l cap]).step (alo1 _ _).1).step (alo1 _ _).1
  have C0 : Hid (Cel W1 (w.heap.size + 1) 24 [.int .i64 0, .int .i64 0, .slice none 0 0]) := by
    unfold Hid; rw [← hW]
    have := (Cel.new (w.alloc (.cells #[.int .i64 (n : Int), .int .i64 (n : Int), .slice a l cap] 24)) 24 [.int .i64 0, .int .i64 0, .slice none 0 0]).step (alo1 _ (.cells #[.int .i64 (n : Int), .int .i64 (n : Int), .slice a l cap] 24)).1
    simpa using this
  have CA : Cel W1 (w.heap.size + 1 + 1) 24 [.int .i64 (n : Int), .int .i64 (n : Int), .slice a l cap] := by
    rw [← hW]
    have := Cel.new ((w.alloc (.cells #[.int .i64 (n : Int), .int .i64 (n : Int), .slice a l cap] 24)).alloc (.cells #[.int .i64 0, .int .i64 0, .slice none 0 0] 24)) 24 [.int .i64 (n : Int), .int .i64 (n : Int), .slice a l cap]
    simpa using this
  have HF := hid (fault17 (w := W1) (w0 := W1) (g := w.heap.size + 1 + 1) (n := 1) (k := k) (q := fun _ => ⟨(n : Int), (n : Int), a, l, cap⟩) (P := fun _ => P) (Q := fun _ => Q) (fits := true) (by omega) (fun j hj => by
    obtain rfl : j = 0 := by omega
    exact ⟨CA.at (i := 0) rfl, CA.at (i := 1) rfl, CA.at (i := 2) rfl⟩) (fun j hj => hv.now b0))
  have B0 := hid b0
  have EW := hid hW
  have x0 := CQ.out.at (i := 0) rfl
  have x1 := CQ.out.at (i := 1) rfl
  have x2 := CQ.out.at (i := 2) rfl
  rw [← hW] at x0 x1 x2
  clear b0 sz0 hW CA
  have HRO : Hid (∀ {w' : World}, Below w.heap.size w w' → Calls Tryz.prog 58 #[.agg #[.int .i64 (n : Int), .int .i64 (n : Int), .slice a l cap]] w' (Bud w' n P Q k)) := fun hb => besideUnit17 (hv.now hb) hl hn hk1 (by omega)
  have HQ2 : Hid (∀ i j, i < n → j < 2 * n → buQ n Q i j ≠ 0) := fun i j hi hj => by
    unfold buQ
    by_cases q : j < n
    · rw [if_pos q]; exact hQ _ (by rw [hl]; exact zF_lt17 hi q)
    · rw [if_neg q]; decide
  have HEL : Hid (∀ {w' : World} {v : Value}, QLs w' v n (2 * n) (buP n P) (buQ n Q) k → Calls Tryz.prog 29 #[v, .int .i64 (n : Int)] w' (Eld (wha (2 * n) (buP n P) (buQ n Q)) w'.heap.size w' n (2 * n) n KW)) := fun h => eliminated_any h HQ2.out hn (by omega) hk hk1 (by omega) hK h1 (by omega)
  have HKW := hid hkw
  have HQQ := hid hQ
  clear hv hl hQ hk hk1 hK h1 hkw
  go_enter Tryz.func24, Tryz.ntmps24
  go_wp2_with fail
  rw [EW.out]
  refine HF.out.mono ?_
  rintro e w1 ⟨code, rfl, hcode, b1⟩
  obtain rfl : code = 0 := by
    rcases FltIs.one hcode with ⟨h1, h2⟩ | ⟨h1, h2, h3⟩ | ⟨h1, h2, h3, t, ht, h4⟩ | ⟨h1, h2, h3, h4⟩
    · exact absurd hS h2
    · cases h3
    · exact absurd h4 (HQQ.out t ht)
    · exact h1
  have CQ1 := hid (CQ.out.step b1)
  have C1 := hid (C0.out.step b1)
  have G1 := hid (below_step B0.out b1)
  have HBQ : Hid (w.heap.size + 1 < w1.heap.size) := C1.out.blk
  have y0 := CQ1.out.at (i := 0) rfl
  have y1 := CQ1.out.at (i := 1) rfl
  have y2 := CQ1.out.at (i := 2) rfl
  clear HF hcode b1 CQ C0 B0 EW x0 x1 x2 hS HQQ HQ2
  go_wp2_with fail
  go_cut [5] from 6 (fun s1 wx => MetE (wha (2 * n) (buP n P) (buQ n Q)) w1 n (2 * n) n KW s1 wx)
  case first =>
    have KB : Hid (∀ w', Below w1.heap.size w1 w' → w'.cell? ⟨w.heap.size, 0, none⟩ = some (.int .i64 (n : Int)) ∧ w'.cell? ⟨w.heap.size, 1, none⟩ = some (.int .i64 (n : Int)) ∧ w'.cell? ⟨w.heap.size, 2, none⟩ = some (.slice a l cap)) := fun w' h => ⟨cnow h y0, cnow h y1, cnow h y2⟩
    refine wp_region_tail (fun w' => w'.cell? ⟨w.heap.size, 0, none⟩ = some (.int .i64 (n : Int)) ∧ w'.cell? ⟨w.heap.size, 1, none⟩ = some (.int .i64 (n : Int)) ∧ w'.cell? ⟨w.heap.size, 2, none⟩ = some (.slice a l cap)) 6 (by kernel_rfl) ?_
    obtain ⟨D1, hD⟩ : ∃ D1, w1.drew = D1 := ⟨_, rfl⟩
    have GB : Hid (Below w1.heap.size w1 D1) := by unfold Hid; rw [← hD]; exact (Below.refl _ _).drew
    rw [hD]
    clear hD
    have GZ : Hid (w1.heap.size ≤ D1.heap.size) := GB.out.size
    refine wpAnyT_list [(0, (.agg #[.int .i64 (n : Int), .int .i64 (n : Int), .slice a l cap])), (2, (.pointer (some ⟨w.heap.size, 1, none⟩))), (3, (.int .i64 (n : Int)))] 3 ?_ (KB.out _ GB.out) ?_
    · simp only [TakesV, gA9, g09, g19, Act.put, sI9, s09, s19]
      (repeat' (first | exact trivial | refine And.intro (Or.inl ⟨by rfl, ?_⟩) ?_)) <;> (intro w hSw; (try dsimp only at hSw); go_simp)
    simp only [actV, gA9, g09, g19, Act.put, sI9, s09, s19]
    refine wpAnyT_two (i := 1) (j := 5) (oi := { dst := some 22, op := Op.call { callee := Callee.value (Operand.func 58), args := #[Operand.tmp 21], argTypes := #[24] }, type := 71, pos := "rref.go:105", after := #[{ on := 0, ground := Ground.data }], guard := none }) (oj := { dst := some 5, op := Op.alloc 69, type := 0, pos := "rref.go:105", after := #[], guard := none }) (by kernel_rfl) rfl rfl (fun K hK => ?_) (fun K hK => ?_)
    · skip
      go_simp
      go_at_call 58
      refine (HRO.out (below_step G1.out GB.out)).mono ?_
      rintro e w2 ⟨vr, rfl, hfil, b⟩
      have lz2 := (show Below _ _ _ from b).size
      replace GB := hid (below_step GB.out b)
      have QL := hid hfil
      clear hfil
      replace GZ : Hid (w1.heap.size ≤ w2.heap.size) := GB.out.size
      clear b
      refine hK.out _ _ (fun _ => KB.out _ GB.out) ?_
      clear hK
      refine wpAnyT_two (i := 4) (j := 5) (oi := { dst := some 25, op := Op.call { callee := Callee.value (Operand.func 29), args := #[Operand.tmp 22, Operand.tmp 24], argTypes := #[71, 3] }, type := 69, pos := "rref.go:105", after := #[{ on := 1, ground := Ground.data }, { on := 3, ground := Ground.data }, { on := 1, ground := Ground.chain }], guard := none }) (oj := { dst := some 5, op := Op.alloc 69, type := 0, pos := "rref.go:105", after := #[], guard := none }) (by kernel_rfl) rfl rfl (fun K hK => ?_) (fun K hK => ?_)
      · skip
        go_simp
        go_at_call 29
        refine (HEL.out QL.out).mono ?_
        rintro e w3 hE
        obtain ⟨nx, ax, lx, cx, la, lc, nd, ad, ld, cd, va, pl, vc, gs, L, d, pv, rfl, hpl, t1, t2, t3, t4, b⟩ := hE.form
        clear hE QL
        have EE : Hid (Ivs w1.heap.size w3 (.slice va pl vc) pv ∧ Sh17 w1.heap.size w3 (.slice la n lc) n (2 * n) gs L KW ∧ Zm 0 w3 (.agg #[.bool nd, .slice ad ld cd]) d KW) := ⟨owns_mono11 t2 GZ.out, t3.mono GZ.out, t1⟩
        have ELS := hid t4
        replace GB := hid (below_step GB.out b)
        replace GZ : Hid (w1.heap.size ≤ w3.heap.size) := GB.out.size
        clear t1 t2 t3 t4 hpl b
        refine hK.out _ _ (fun _ => KB.out _ GB.out) ?_
        clear hK
        refine wpAnyT_one (i := 5) (o := { dst := some 5, op := Op.alloc 69, type := 0, pos := "rref.go:105", after := #[], guard := none }) (by kernel_rfl) rfl (fun K hK => ?_)
        go_simp
        obtain ⟨V4, hW⟩ : ∃ V4, w3.alloc (.cells #[.bool false, .slice none 0 0, .nilFunc, .nilFunc, .nilFunc, .nilFunc, .slice none 0 0, .bool false, .slice none 0 0, .slice none 0 0] 69) = V4 := ⟨_, rfl⟩
        obtain ⟨b, sz4⟩ := alo1 w3 (.cells #[.bool false, .slice none 0 0, .nilFunc, .nilFunc, .nilFunc, .nilFunc, .slice none 0 0, .bool false, .slice none 0 0, .slice none 0 0] 69)
        rw [hW] at b sz4
        replace GB := hid (below_step GB.out b)
        have DX : Hid (Cel V4 w3.heap.size 69 [.bool false, .slice none 0 0, .nilFunc, .nilFunc, .nilFunc, .nilFunc, .slice none 0 0, .bool false, .slice none 0 0, .slice none 0 0]) := by unfold Hid; rw [← hW]; exact Cel.new w3 _ _
        have SX := hid (show w1.heap.size ≤ w3.heap.size from GZ.out)
        replace GZ : Hid (w1.heap.size ≤ V4.heap.size) := GB.out.size
        replace EE := hid (⟨EE.out.1.now b, EE.out.2.1.now b, EE.out.2.2.now b⟩ : _ ∧ _ ∧ _)
        clear sz4
        rw [hW]
        clear hW b
        refine hK.out _ _ (fun _ => KB.out _ GB.out) ?_
        clear hK
        try simp only [Act.put]
        refine wpAnyT_one (i := 6) (o := { dst := none, op := Op.store 69 (Operand.tmp 5) (Operand.tmp 25), type := 0, pos := "rref.go:105", after := #[{ on := 5, ground := Ground.data }, { on := 4, ground := Ground.data }, { on := 4, ground := Ground.chain }, { on := 0, ground := Ground.phase }, { on := 1, ground := Ground.phase }, { on := 2, ground := Ground.phase }, { on := 3, ground := Ground.phase }, { on := 4, ground := Ground.phase }, { on := 5, ground := Ground.phase }], guard := none }) (by kernel_rfl) rfl (fun K hK => ?_)
        have h0 := DX.out.at (i := 0) rfl
        have j0 := DX.out.fz 0
        have h1 := DX.out.at (i := 1) rfl
        have j1 := DX.out.fz 1
        have h2 := DX.out.at (i := 2) rfl
        have j2 := DX.out.fz 2
        have h3 := DX.out.at (i := 3) rfl
        have j3 := DX.out.fz 3
        have h4 := DX.out.at (i := 4) rfl
        have j4 := DX.out.fz 4
        have h5 := DX.out.at (i := 5) rfl
        have j5 := DX.out.fz 5
        have h6 := DX.out.at (i := 6) rfl
        have j6 := DX.out.fz 6
        have h7 := DX.out.at (i := 7) rfl
        have j7 := DX.out.fz 7
        have h8 := DX.out.at (i := 8) rfl
        have j8 := DX.out.fz 8
        have h9 := DX.out.at (i := 9) rfl
        have j9 := DX.out.fz 9
        go_simp
        clear h0 h1 h2 h3 h4 h5 h6 h7 h8 h9 j0 j1 j2 j3 j4 j5 j6 j7 j8 j9
        obtain ⟨V5, hW⟩ : ∃ V5, ((((((((((V4.setCell ⟨w3.heap.size, 0, none⟩ (.bool nx)).setCell ⟨w3.heap.size, 1, none⟩ (.slice ax lx cx)).setCell ⟨w3.heap.size, 2, none⟩ fnZ17).setCell ⟨w3.heap.size, 3, none⟩ fnM17).setCell ⟨w3.heap.size, 4, none⟩ fnS17).setCell ⟨w3.heap.size, 5, none⟩ fnO17).setCell ⟨w3.heap.size, 6, none⟩ (.slice la n lc)).setCell ⟨w3.heap.size, 7, none⟩ (.bool nd)).setCell ⟨w3.heap.size, 8, none⟩ (.slice ad ld cd)).setCell ⟨w3.heap.size, 9, none⟩ (.slice va pl vc)) = V5 := ⟨_, rfl⟩
        obtain ⟨t1, t2, t3⟩ := ten_set DX.out SX.out _ _ _ _ _ _ _ _ _ _ V5 hW
        have FN4 : Hid (MetE (wha (2 * n) (buP n P) (buQ n Q)) w1 n (2 * n) n KW (.pointer (some ⟨w3.heap.size, 0, none⟩)) V5) := ⟨_, nx, ax, lx, cx, _, nd, ad, ld, cd, _, gs, L, d, pv, rfl, SX.out, t1, EE.out.2.2.ty t2 (by decide), EE.out.1.keep fun b L _ e => t2.2 b _ _ _ e (by decide), EE.out.2.1.ty t2 (by decide) (by decide) (by decide), ELS.out, GB.out.trans t3⟩
        clear t1 t2 t3
        rw [hW]
        clear hW
        refine hK.out _ _ (fun h => absurd h (by decide)) ?_
        clear hK
        try simp only [Act.put]
        refine wpAnyT_done (by kernel_rfl) ?_ _
        clear GB GZ DX SX EE ELS
        go_wp2_with fail
        go_meet
        exact FN4.out
      · skip
        go_simp
        obtain ⟨V6, hW⟩ : ∃ V6, w2.alloc (.cells #[.bool false, .slice none 0 0, .nilFunc, .nilFunc, .nilFunc, .nilFunc, .slice none 0 0, .bool false, .slice none 0 0, .slice none 0 0] 69) = V6 := ⟨_, rfl⟩
        obtain ⟨b, sz6⟩ := alo1 w2 (.cells #[.bool false, .slice none 0 0, .nilFunc, .nilFunc, .nilFunc, .nilFunc, .slice none 0 0, .bool false, .slice none 0 0, .slice none 0 0] 69)
        rw [hW] at b sz6
        replace GB := hid (below_step GB.out b)
        have DX : Hid (Cel V6 w2.heap.size 69 [.bool false, .slice none 0 0, .nilFunc, .nilFunc, .nilFunc, .nilFunc, .slice none 0 0, .bool false, .slice none 0 0, .slice none 0 0]) := by unfold Hid; rw [← hW]; exact Cel.new w2 _ _
        have SX := hid (show w1.heap.size ≤ w2.heap.size from GZ.out)
        replace GZ : Hid (w1.heap.size ≤ V6.heap.size) := GB.out.size
        try replace QL := hid (QL.out.now b)
        clear sz6
        rw [hW]
        clear hW b
        refine hK.out _ _ (fun _ => KB.out _ GB.out) ?_
        clear hK
        try simp only [Act.put]
        refine wpAnyT_one (i := 4) (o := { dst := some 25, op := Op.call { callee := Callee.value (Operand.func 29), args := #[Operand.tmp 22, Operand.tmp 24], argTypes := #[71, 3] }, type := 69, pos := "rref.go:105", after := #[{ on := 1, ground := Ground.data }, { on := 3, ground := Ground.data }, { on := 1, ground := Ground.chain }], guard := none }) (by kernel_rfl) rfl (fun K hK => ?_)
        go_simp
        go_at_call 29
        refine (HEL.out QL.out).mono ?_
        rintro e w7 hE
        obtain ⟨nx, ax, lx, cx, la, lc, nd, ad, ld, cd, va, pl, vc, gs, L, d, pv, rfl, hpl, t1, t2, t3, t4, b⟩ := hE.form
        clear hE QL
        have EE : Hid (Ivs w1.heap.size w7 (.slice va pl vc) pv ∧ Sh17 w1.heap.size w7 (.slice la n lc) n (2 * n) gs L KW ∧ Zm 0 w7 (.agg #[.bool nd, .slice ad ld cd]) d KW) := ⟨owns_mono11 t2 GZ.out, t3.mono GZ.out, t1⟩
        have ELS := hid t4
        replace GB := hid (below_step GB.out b)
        replace DX := hid (DX.out.step b)
        replace GZ : Hid (w1.heap.size ≤ w7.heap.size) := GB.out.size
        clear t1 t2 t3 t4 hpl b
        refine hK.out _ _ (fun _ => KB.out _ GB.out) ?_
        clear hK
        refine wpAnyT_one (i := 6) (o := { dst := none, op := Op.store 69 (Operand.tmp 5) (Operand.tmp 25), type := 0, pos := "rref.go:105", after := #[{ on := 5, ground := Ground.data }, { on := 4, ground := Ground.data }, { on := 4, ground := Ground.chain }, { on := 0, ground := Ground.phase }, { on := 1, ground := Ground.phase }, { on := 2, ground := Ground.phase }, { on := 3, ground := Ground.phase }, { on := 4, ground := Ground.phase }, { on := 5, ground := Ground.phase }], guard := none }) (by kernel_rfl) rfl (fun K hK => ?_)
        have h0 := DX.out.at (i := 0) rfl
        have j0 := DX.out.fz 0
        have h1 := DX.out.at (i := 1) rfl
        have j1 := DX.out.fz 1
        have h2 := DX.out.at (i := 2) rfl
        have j2 := DX.out.fz 2
        have h3 := DX.out.at (i := 3) rfl
        have j3 := DX.out.fz 3
        have h4 := DX.out.at (i := 4) rfl
        have j4 := DX.out.fz 4
        have h5 := DX.out.at (i := 5) rfl
        have j5 := DX.out.fz 5
        have h6 := DX.out.at (i := 6) rfl
        have j6 := DX.out.fz 6
        have h7 := DX.out.at (i := 7) rfl
        have j7 := DX.out.fz 7
        have h8 := DX.out.at (i := 8) rfl
        have j8 := DX.out.fz 8
        have h9 := DX.out.at (i := 9) rfl
        have j9 := DX.out.fz 9
        go_simp
        clear h0 h1 h2 h3 h4 h5 h6 h7 h8 h9 j0 j1 j2 j3 j4 j5 j6 j7 j8 j9
        obtain ⟨V8, hW⟩ : ∃ V8, ((((((((((w7.setCell ⟨w2.heap.size, 0, none⟩ (.bool nx)).setCell ⟨w2.heap.size, 1, none⟩ (.slice ax lx cx)).setCell ⟨w2.heap.size, 2, none⟩ fnZ17).setCell ⟨w2.heap.size, 3, none⟩ fnM17).setCell ⟨w2.heap.size, 4, none⟩ fnS17).setCell ⟨w2.heap.size, 5, none⟩ fnO17).setCell ⟨w2.heap.size, 6, none⟩ (.slice la n lc)).setCell ⟨w2.heap.size, 7, none⟩ (.bool nd)).setCell ⟨w2.heap.size, 8, none⟩ (.slice ad ld cd)).setCell ⟨w2.heap.size, 9, none⟩ (.slice va pl vc)) = V8 := ⟨_, rfl⟩
        obtain ⟨t1, t2, t3⟩ := ten_set DX.out SX.out _ _ _ _ _ _ _ _ _ _ V8 hW
        have FN4 : Hid (MetE (wha (2 * n) (buP n P) (buQ n Q)) w1 n (2 * n) n KW (.pointer (some ⟨w2.heap.size, 0, none⟩)) V8) := ⟨_, nx, ax, lx, cx, _, nd, ad, ld, cd, _, gs, L, d, pv, rfl, SX.out, t1, EE.out.2.2.ty t2 (by decide), EE.out.1.keep fun b L _ e => t2.2 b _ _ _ e (by decide), EE.out.2.1.ty t2 (by decide) (by decide) (by decide), ELS.out, GB.out.trans t3⟩
        clear t1 t2 t3
        rw [hW]
        clear hW
        refine hK.out _ _ (fun h => absurd h (by decide)) ?_
        clear hK
        try simp only [Act.put]
        refine wpAnyT_done (by kernel_rfl) ?_ _
        clear GB GZ DX SX EE ELS
        go_wp2_with fail
        go_meet
        exact FN4.out
    · skip
      go_simp
      obtain ⟨V9, hW⟩ : ∃ V9, D1.alloc (.cells #[.bool false, .slice none 0 0, .nilFunc, .nilFunc, .nilFunc, .nilFunc, .slice none 0 0, .bool false, .slice none 0 0, .slice none 0 0] 69) = V9 := ⟨_, rfl⟩
      obtain ⟨b, sz9⟩ := alo1 D1 (.cells #[.bool false, .slice none 0 0, .nilFunc, .nilFunc, .nilFunc, .nilFunc, .slice none 0 0, .bool false, .slice none 0 0, .slice none 0 0] 69)
      rw [hW] at b sz9
      replace GB := hid (below_step GB.out b)
      have DX : Hid (Cel V9 D1.heap.size 69 [.bool false, .slice none 0 0, .nilFunc, .nilFunc, .nilFunc, .nilFunc, .slice none 0 0, .bool false, .slice none 0 0, .slice none 0 0]) := by unfold Hid; rw [← hW]; exact Cel.new D1 _ _
      have SX := hid (show w1.heap.size ≤ D1.heap.size from GZ.out)
      replace GZ : Hid (w1.heap.size ≤ V9.heap.size) := GB.out.size
      clear sz9
      rw [hW]
      clear hW b
      refine hK.out _ _ (fun _ => KB.out _ GB.out) ?_
      clear hK
      try simp only [Act.put]
      refine wpAnyT_one (i := 1) (o := { dst := some 22, op := Op.call { callee := Callee.value (Operand.func 58), args := #[Operand.tmp 21], argTypes := #[24] }, type := 71, pos := "rref.go:105", after := #[{ on := 0, ground := Ground.data }], guard := none }) (by kernel_rfl) rfl (fun K hK => ?_)
      go_simp
      go_at_call 58
      refine (HRO.out (below_step G1.out GB.out)).mono ?_
      rintro e w10 ⟨vr, rfl, hfil, b⟩
      have lz10 := (show Below _ _ _ from b).size
      replace GB := hid (below_step GB.out b)
      have QL := hid hfil
      clear hfil
      replace DX := hid (DX.out.step b)
      replace GZ : Hid (w1.heap.size ≤ w10.heap.size) := GB.out.size
      clear b
      refine hK.out _ _ (fun _ => KB.out _ GB.out) ?_
      clear hK
      refine wpAnyT_one (i := 4) (o := { dst := some 25, op := Op.call { callee := Callee.value (Operand.func 29), args := #[Operand.tmp 22, Operand.tmp 24], argTypes := #[71, 3] }, type := 69, pos := "rref.go:105", after := #[{ on := 1, ground := Ground.data }, { on := 3, ground := Ground.data }, { on := 1, ground := Ground.chain }], guard := none }) (by kernel_rfl) rfl (fun K hK => ?_)
      go_simp
      go_at_call 29
      refine (HEL.out QL.out).mono ?_
      rintro e w11 hE
      obtain ⟨nx, ax, lx, cx, la, lc, nd, ad, ld, cd, va, pl, vc, gs, L, d, pv, rfl, hpl, t1, t2, t3, t4, b⟩ := hE.form
      clear hE QL
      have EE : Hid (Ivs w1.heap.size w11 (.slice va pl vc) pv ∧ Sh17 w1.heap.size w11 (.slice la n lc) n (2 * n) gs L KW ∧ Zm 0 w11 (.agg #[.bool nd, .slice ad ld cd]) d KW) := ⟨owns_mono11 t2 GZ.out, t3.mono GZ.out, t1⟩
      have ELS := hid t4
      replace GB := hid (below_step GB.out b)
      replace DX := hid (DX.out.step b)
      replace GZ : Hid (w1.heap.size ≤ w11.heap.size) := GB.out.size
      clear t1 t2 t3 t4 hpl b
      refine hK.out _ _ (fun _ => KB.out _ GB.out) ?_
      clear hK
      refine wpAnyT_one (i := 6) (o := { dst := none, op := Op.store 69 (Operand.tmp 5) (Operand.tmp 25), type := 0, pos := "rref.go:105", after := #[{ on := 5, ground := Ground.data }, { on := 4, ground := Ground.data }, { on := 4, ground := Ground.chain }, { on := 0, ground := Ground.phase }, { on := 1, ground := Ground.phase }, { on := 2, ground := Ground.phase }, { on := 3, ground := Ground.phase }, { on := 4, ground := Ground.phase }, { on := 5, ground := Ground.phase }], guard := none }) (by kernel_rfl) rfl (fun K hK => ?_)
      have h0 := DX.out.at (i := 0) rfl
      have j0 := DX.out.fz 0
      have h1 := DX.out.at (i := 1) rfl
      have j1 := DX.out.fz 1
      have h2 := DX.out.at (i := 2) rfl
      have j2 := DX.out.fz 2
      have h3 := DX.out.at (i := 3) rfl
      have j3 := DX.out.fz 3
      have h4 := DX.out.at (i := 4) rfl
      have j4 := DX.out.fz 4
      have h5 := DX.out.at (i := 5) rfl
      have j5 := DX.out.fz 5
      have h6 := DX.out.at (i := 6) rfl
      have j6 := DX.out.fz 6
      have h7 := DX.out.at (i := 7) rfl
      have j7 := DX.out.fz 7
      have h8 := DX.out.at (i := 8) rfl
      have j8 := DX.out.fz 8
      have h9 := DX.out.at (i := 9) rfl
      have j9 := DX.out.fz 9
      go_simp
      clear h0 h1 h2 h3 h4 h5 h6 h7 h8 h9 j0 j1 j2 j3 j4 j5 j6 j7 j8 j9
      obtain ⟨V12, hW⟩ : ∃ V12, ((((((((((w11.setCell ⟨D1.heap.size, 0, none⟩ (.bool nx)).setCell ⟨D1.heap.size, 1, none⟩ (.slice ax lx cx)).setCell ⟨D1.heap.size, 2, none⟩ fnZ17).setCell ⟨D1.heap.size, 3, none⟩ fnM17).setCell ⟨D1.heap.size, 4, none⟩ fnS17).setCell ⟨D1.heap.size, 5, none⟩ fnO17).setCell ⟨D1.heap.size, 6, none⟩ (.slice la n lc)).setCell ⟨D1.heap.size, 7, none⟩ (.bool nd)).setCell ⟨D1.heap.size, 8, none⟩ (.slice ad ld cd)).setCell ⟨D1.heap.size, 9, none⟩ (.slice va pl vc)) = V12 := ⟨_, rfl⟩
      obtain ⟨t1, t2, t3⟩ := ten_set DX.out SX.out _ _ _ _ _ _ _ _ _ _ V12 hW
      have FN4 : Hid (MetE (wha (2 * n) (buP n P) (buQ n Q)) w1 n (2 * n) n KW (.pointer (some ⟨D1.heap.size, 0, none⟩)) V12) := ⟨_, nx, ax, lx, cx, _, nd, ad, ld, cd, _, gs, L, d, pv, rfl, SX.out, t1, EE.out.2.2.ty t2 (by decide), EE.out.1.keep fun b L _ e => t2.2 b _ _ _ e (by decide), EE.out.2.1.ty t2 (by decide) (by decide) (by decide), ELS.out, GB.out.trans t3⟩
      clear t1 t2 t3
      rw [hW]
      clear hW
      refine hK.out _ _ (fun h => absurd h (by decide)) ?_
      clear hK
      try simp only [Act.put]
      refine wpAnyT_done (by kernel_rfl) ?_ _
      clear GB GZ DX SX EE ELS
      go_wp2_with fail
      go_meet
      exact FN4.out
  case rest =>
  rename World => W2
  obtain ⟨b6, nx, ax, lx, cx, lv, nd, ad, ld, cd, vv, gs, L, d, pv, rfl, hb6, e1, e3, e4, e5, es, bb⟩ := hcut
  obtain ⟨la, lc, rfl⟩ : ∃ la lc, lv = .slice la n lc := by
    rcases e5.1 with ⟨rfl, h⟩ | ⟨h, Lb, cap, r, e, _⟩
    · exact ⟨_, _, h⟩
    · exact ⟨_, _, e⟩
  obtain ⟨va, vc, rfl, -, -⟩ := e4.form
  obtain ⟨pl, hpl⟩ : ∃ pl, pv.length = pl := ⟨_, rfl⟩
  have HPL := hid hpl
  have hpn : pl ≤ n := by have := es.len; omega
  rw [hpl] at e1 e4
  have CE := hid e1
  have ZD := hid e3
  have SH := hid e5
  have ES := hid es
  have CQ2 := hid (CQ1.out.step bb)
  have C2 := hid (C1.out.step bb)
  have G2 := hid (below_step G1.out bb)
  have HB6 := hid hb6
  have EQV : Hid (Eqv (2 * n) n (rq L d) (qbu n P Q)) := es.eq.trans whb_eqv
  have ERR : Hid (Rref n n (rq L d) pv) := es.rr
  have z9 := CE.out.at (i := 9) rfl
  have z0 := CQ2.out.at (i := 0) rfl
  have z1 := CQ2.out.at (i := 1) rfl
  clear e1 e3 e4 e5 es bb hpl y0 y1 y2 CQ1 C1 hb6
  by_cases hfull : pl < n
  · have hfI : (pl : Int) < (n : Int) := by omega
    have c0 := C2.out.at (i := 0) rfl
    have c1 := C2.out.at (i := 1) rfl
    have c2 := C2.out.at (i := 2) rfl
    have f0 := C2.out.fz 0
    have f1 := C2.out.fz 1
    have f2 := C2.out.fz 2
    obtain ⟨V, hV⟩ : ∃ V, ((W2.setCell ⟨w.heap.size + 1, 0, none⟩ (.int .i64 0)).setCell ⟨w.heap.size + 1, 1, none⟩ (.int .i64 0)).setCell ⟨w.heap.size + 1, 2, none⟩ (.slice none 0 0) = V := ⟨_, rfl⟩
    have DR : Hid (Cel V (w.heap.size + 1) 24 [.int .i64 0, .int .i64 0, .slice none 0 0]) := by unfold Hid; rw [← hV]; exact ((C2.out.set 0 _).set 1 _).set 2 _
    have FF : Hid (Invd w n P Q KW (.returned (.tuple #[qm0, .int .i64 6])) V) := by
      refine ⟨rq L d, pv, ERR.out, EQV.out, ?_, .inl ⟨by rw [HPL.out]; exact hfull, rfl⟩⟩
      rw [← hV]
      have h : w.heap.size ≤ w.heap.size + 1 := by omega
      exact bset (bset (bset G2.out h) h) h
    have EV := hid hV
    clear hV CE ZD SH ES CQ2 C2 G2 HB6 EQV ERR
    go_wp2
    rw [EV.out]
    exact bodyPost_ret (qback2 Tryz.results24 DR.out _ (by rfl) (by rfl)) rfl FF.out
  · have hfI : ¬ (pl : Int) < (n : Int) := by omega
    obtain ⟨V3, hV3⟩ : ∃ V3, W2.alloc (.cells #[.int .i64 (n : Int), .int .i64 (n : Int), .slice none 0 0] 24) = V3 := ⟨_, rfl⟩
    obtain ⟨b3, sz3⟩ := alo1 W2 (.cells #[.int .i64 (n : Int), .int .i64 (n : Int), .slice none 0 0] 24)
    rw [hV3] at b3 sz3
    have C3 : Cel V3 W2.heap.size 24 [.int .i64 (n : Int), .int .i64 (n : Int), .slice none 0 0] := by rw [← hV3]; exact Cel.new W2 _ _
    have H0 : Hid (∃ t : Nat, Value.int .i64 0 = .int .i64 (t : Int) ∧ t ≤ n ∧ n = n - t ∧ ∃ s, InJ w w.heap.size (w.heap.size + 1) b6 W2.heap.size n a l cap L d KW t s nx ax lx cx la lc nd ad ld cd va pl vc gs w1 V3) := ⟨0, rfl, Nat.zero_le _, rfl, _, CQ2.out.step b3, C2.out.step b3, CE.out.step b3, C3, ZD.out.now b3, SH.out.now b3, ⟨fun _ _ => .bool false, by rw [Nat.zero_mul]; exact Own4.nil _ _ _, fun j hj => by omega⟩, below_step G2.out b3⟩
    have HW2 : Hid (w.heap.size ≤ W2.heap.size) := G2.out.size
    have HNE : Hid (W2.heap.size ≠ w.heap.size ∧ W2.heap.size ≠ w.heap.size + 1) := by unfold Hid; have := C2.out.blk; omega
    obtain ⟨b7, hb7⟩ : ∃ b7, W2.heap.size = b7 := ⟨_, rfl⟩
    rw [hb7] at H0 HW2 HNE
    have z6 := (CE.out.step b3).at (i := 6) rfl
    rw [← hV3] at z6
    have EV3 := hid hV3
    have E7 := hid hb7
    have HES := hid ES.out.nz
    clear hV3 b3 sz3 C3 CE ZD SH ES CQ2 C2 G2 HB6 hb7
    go_wp2_with fail
    rw [EV3.out, E7.out]
    clear EV3 E7 z6 z9 z0 z1
    go_loopg [41] n (fun gk s41 wx => ∃ t : Nat, s41 = .int .i64 (t : Int) ∧ t ≤ n ∧ gk = n - t ∧ ∃ s, InJ w w.heap.size (w.heap.size + 1) b6 b7 n a l cap L d KW t s nx ax lx cx la lc nd ad ld cd va pl vc gs w1 wx)
    case atStart => exact H0.out
    case round =>
      clear H0
      obtain ⟨t, rfl, htn, hgk, s, hq, h2, h5, h7, hzd, hsh, ⟨C, hO, hZ⟩, hb⟩ := hrel
      have CQ := hid hq
      have C2 := hid h2
      have C5 := hid h5
      have C7 := hid h7
      have ZD := hid hzd
      have SH := hid hsh
      have OW := hid hO
      have ZZ := hid hZ
      have G := hid hb
      have HG := hid hgk
      obtain ⟨sa, sc, rfl, -, -, -⟩ := hO.form
      obtain ⟨sl, hsl⟩ : ∃ sl, t * n = sl := ⟨_, rfl⟩
      have HSL := hid hsl
      rw [hsl] at OW ZZ C7
      clear hq h2 h5 h7 hzd hsh hO hZ hb hgk hsl
      by_cases hlt : t < n
      · have hlt' : (t : Int) < (n : Int) := by omega
        have hwt := wrapI9 (i := t) (by omega)
        obtain ⟨Lb, cap', hla⟩ : ∃ Lb cap', (Value.slice la n lc) = .slice (some ⟨Lb, 0, none⟩) n cap' := by
          rcases SH.out.1 with ⟨h, _⟩ | ⟨_, Lb, cap', r, e, _⟩
          · omega
          · exact ⟨Lb, cap', e⟩
        simp only [Value.slice.injEq] at hla
        obtain ⟨rfl, -, rfl⟩ := hla
        have k0 := SH.out.lineS hlt
        have HROW := hid ((SH.out.2.2 t hlt).2.tail hn)
        have hsl := fun wx => slice_tail17 wx (gs t) n (by omega)
        have k2 := C7.out.at (i := 2) rfl
        have k1 := CQ.out.at (i := 1) rfl
        have k7 := C5.out.at (i := 7) rfl
        have k8 := C5.out.at (i := 8) rfl
        have HMM : Hid (n - (t + 1) < gk) := by unfold Hid; rw [HG.out]; omega
        have HSN : Hid (sl + n = (t + 1) * n) := by unfold Hid; rw [← HSL.out, Nat.succ_mul]
        have HTN : Hid ((t + 1) * n ≤ 64 * 64) := Nat.mul_le_mul (by omega) hn
        have HGW : Hid (w.heap.size ≤ wr.heap.size) := G.out.size
        have hnpos : 0 < n := by omega
        clear HG
        go_wp2_with fail
        have KB : Hid (∀ w', Below wr.heap.size wr w' → w'.cell? ⟨b7, 2, none⟩ = some (.slice sa sl sc) ∧ w'.cell? ⟨w.heap.size, 1, none⟩ = some (.int .i64 (n : Int)) ∧ w'.cell? ⟨b6, 7, none⟩ = some (.bool nd) ∧ w'.cell? ⟨b6, 8, none⟩ = some (.slice ad ld cd)) := fun w' h => ⟨cnow h k2, cnow h k1, cnow h k7, cnow h k8⟩
        refine wp_region_tail (fun w' => w'.cell? ⟨b7, 2, none⟩ = some (.slice sa sl sc) ∧ w'.cell? ⟨w.heap.size, 1, none⟩ = some (.int .i64 (n : Int)) ∧ w'.cell? ⟨b6, 7, none⟩ = some (.bool nd) ∧ w'.cell? ⟨b6, 8, none⟩ = some (.slice ad ld cd)) 11 (by kernel_rfl) ?_
        obtain ⟨D61, hD⟩ : ∃ D61, wr.drew = D61 := ⟨_, rfl⟩
        have GB : Hid (Below wr.heap.size wr D61) := by unfold Hid; rw [← hD]; exact (Below.refl _ _).drew
        rw [hD]
        clear hD
        have KC := hid (KB.out _ GB.out)
        have GZ : Hid (wr.heap.size ≤ D61.heap.size) := GB.out.size
        refine wpAnyT_list [(0, (.pointer (some ⟨b7, 2, none⟩))), (1, (.slice sa sl sc)), (2, (.slice (some ⟨gs t, 0, none⟩) (2 * n) (2 * n))), (3, (.pointer (some ⟨w.heap.size, 1, none⟩))), (4, (.int .i64 (n : Int))), (5, (.slice (some ⟨gs t, n * 2, none⟩) n n)), (6, (.pointer (some ⟨b6, 7, none⟩))), (7, (.agg #[.bool nd, .slice ad ld cd]))] 8 ?_ (KC.out) ?_
        · simp only [TakesV, gA9, g09, g19, Act.put, sI9, s09, s19]
          (repeat' (first | exact trivial | refine And.intro (Or.inl ⟨by rfl, ?_⟩) ?_)) <;> (intro w hSw; (try dsimp only at hSw); go_simp)
        simp only [actV, gA9, g09, g19, Act.put, sI9, s09, s19]
        refine wpAnyT_one (i := 8) (o := { dst := some 53, op := Op.call { callee := Callee.value (Operand.func 31), args := #[Operand.tmp 50, Operand.tmp 52], argTypes := #[33, 45] }, type := 22, pos := "rref.go:111", after := #[{ on := 5, ground := Ground.data }, { on := 7, ground := Ground.data }], guard := none }) (by kernel_rfl) rfl (fun K hK => ?_)
        go_simp
        go_at_call 31
        refine (over_any (n := n) (HROW.out.now GB.out) (ZD.out.now GB.out).zi HES.out HKW.out (by simp) (by omega)).mono ?_
        rintro e w62 ⟨go, rfl, hgn, hfq, b⟩
        have lz62 := (show Below _ _ _ from b).size
        replace GB := hid (below_step GB.out b)
        have FQ := hid hfq
        have HGN : Hid (wr.heap.size ≤ go) := by unfold Hid; have := GZ.out; omega
        replace GZ : Hid (wr.heap.size ≤ w62.heap.size) := GB.out.size
        replace KC := hid (KB.out _ GB.out)
        clear hfq hgn
        clear b
        refine hK.out _ _ (fun _ => KC.out) ?_
        clear hK
        refine wpAnyT_one (i := 9) (o := { dst := some 54, op := Op.call { callee := Callee.builtin Builtin.append, args := #[Operand.tmp 46, Operand.tmp 53], argTypes := #[22, 22] }, type := 22, pos := "rref.go:111", after := #[{ on := 1, ground := Ground.data }, { on := 8, ground := Ground.data }, { on := 8, ground := Ground.chain }], guard := none }) (by kernel_rfl) rfl (fun K hK => ?_)
        have OX := hid (OW.out.now GB.out)
        obtain ⟨D, kD1, kD2, kD3⟩ := FQ.out.cellsD
        have KD1 := hid kD1
        have KD2 := hid kD2
        have KD3 := hid kD3
        clear kD1 kD2 kD3
        have HBX : Hid (w.heap.size ≤ w62.heap.size) := by unfold Hid; have := GZ.out; have := HGW.out; omega
        refine step_append_four w62 rfl (.tmp 46) (.tmp 53) rfl w.heap.size sl n n go 0 (.slice sa sl sc) C D rfl OX.out rfl KD1.out KD2.out hnpos (by have := HTN.out; have := HSN.out; omega) HBX.out ?_
        intro g9 cap9 w63 l9 hl9 hO9 hg9 ho9
        have TG : Hid (Ty 47 w62 w63) := Ty.grown OX.out.1 hg9.out
        have BG : Hid (Below w.heap.size w w63) := Own4.below (below_step G.out GB.out) OX.out hg9.out HBX.out
        have M7 := hid ((C7.out.step GB.out).ty13 TG.out (by decide))
        have M5 := hid ((C5.out.step GB.out).ty13 TG.out (by decide))
        have MQ := hid ((CQ.out.step GB.out).ty13 TG.out (by decide))
        have M2 := hid ((C2.out.step GB.out).ty13 TG.out (by decide))
        have MZ := hid ((ZD.out.now GB.out).ty TG.out (by decide))
        have MS := hid ((SH.out.now GB.out).ty TG.out (by decide) (by decide) (by decide))
        have MO := hid hO9.out
        have MC : Hid (∀ j, j < sl + n → Zm 0 w63 (.agg #[cat4 sl C D j 0, cat4 sl C D j 1]) (Rat.divInt (L (j / n) (n + j % n)) d).num KW ∧ Zm 0 w63 (.agg #[cat4 sl C D j 2, cat4 sl C D j 3]) ((Rat.divInt (L (j / n) (n + j % n)) d).den : Int) KW) := fun j hj => by
          unfold cat4
          by_cases q : j < sl
          · simp only [q, if_true]
            have h := ZZ.out j q
            exact ⟨(h.1.now GB.out).ty TG.out (by decide), (h.2.now GB.out).ty TG.out (by decide)⟩
          · simp only [q, if_false]
            have hjn : j - sl < n := by omega
            have h := KD3.out (j - sl) hjn
            have e1 : ((List.range n).map fun j => L t (n + j)).getD (j - sl) 0 = L t (n + (j - sl)) := by simp [hjn]
            have e2 : j = n * t + (j - sl) := by rw [Nat.mul_comm n t, HSL.out]; omega
            have e3 : j / n = t := by rw [e2, Nat.mul_add_div hnpos, Nat.div_eq_of_lt hjn]; rfl
            have e4 : j % n = j - sl := by
              conv => lhs; rw [e2]
              rw [Nat.mul_add_mod, Nat.mod_eq_of_lt hjn]
            rw [e1] at h
            rw [e3, e4]
            exact ⟨h.1.ty TG.out (by decide), h.2.ty TG.out (by decide)⟩
        replace KC := hid (⟨M7.out.at (i := 2) rfl, MQ.out.at (i := 1) rfl, M5.out.at (i := 7) rfl, M5.out.at (i := 8) rfl⟩ : _ ∧ _ ∧ _ ∧ _)
        clear hl9 hO9 hg9 ho9 OX KD1 KD2 KD3 TG FQ GZ HBX
        refine hK.out _ _ (fun _ => KC.out) ?_
        clear hK
        refine wpAnyT_list [(10, (.pointer (some ⟨b7, 2, none⟩)))] 1 ?_ (KC.out) ?_
        · simp only [TakesV, gA9, g09, g19, Act.put, sI9, s09, s19]
          (repeat' (first | exact trivial | refine And.intro (Or.inl ⟨by rfl, ?_⟩) ?_)) <;> (intro w hSw; (try dsimp only at hSw); go_simp)
        simp only [actV, gA9, g09, g19, Act.put, sI9, s09, s19]
        refine wpAnyT_one (i := 11) (o := { dst := none, op := Op.store 22 (Operand.tmp 55) (Operand.tmp 54), type := 0, pos := "rref.go:111", after := #[{ on := 10, ground := Ground.data }, { on := 9, ground := Ground.data }, { on := 9, ground := Ground.chain }, { on := 0, ground := Ground.phase }, { on := 1, ground := Ground.phase }, { on := 2, ground := Ground.phase }, { on := 3, ground := Ground.phase }, { on := 4, ground := Ground.phase }, { on := 5, ground := Ground.phase }, { on := 6, ground := Ground.phase }, { on := 7, ground := Ground.phase }, { on := 8, ground := Ground.phase }, { on := 9, ground := Ground.phase }], guard := none }) (by kernel_rfl) rfl (fun K hK => ?_)
        have h0 := M7.out.at (i := 2) rfl
        have h1 := M7.out.fz 2
        go_simp
        clear h0 h1
        obtain ⟨V64, hW⟩ : ∃ V64, (w63.setCell ⟨b7, 2, none⟩ (.slice (some ⟨g9, 0, none⟩) l9 cap9)) = V64 := ⟨_, rfl⟩
        have HN1 : Hid (∃ t' : Nat, Value.int .i64 ((t + 1 : Nat) : Int) = .int .i64 (t' : Int) ∧ t' ≤ n ∧ n - (t + 1) = n - t' ∧ ∃ s, InJ w w.heap.size (w.heap.size + 1) b6 b7 n a l cap L d KW t' s nx ax lx cx (some ⟨Lb, 0, none⟩) lc nd ad ld cd va pl vc gs w1 V64) := by
          unfold Hid
          have ty : Ty 24 w63 V64 := by rw [← hW]; exact Ty.set M7.out
          have q1 : Cel V64 w.heap.size 24 [.int .i64 (n : Int), .int .i64 (n : Int), .slice a l cap] := by rw [← hW]; exact MQ.out.ne HNE.out.1
          have q2 : Cel V64 (w.heap.size + 1) 24 [.int .i64 0, .int .i64 0, .slice none 0 0] := by rw [← hW]; exact M2.out.ne HNE.out.2
          refine ⟨t + 1, rfl, by omega, rfl, _, q1, q2, M5.out.ty13 ty (by decide), by rw [← hW]; exact M7.out.set 2 _, MZ.out.ty ty (by decide), MS.out.ty ty (by decide) (by decide) (by decide), ⟨cat4 sl C D, by rw [← HSN.out]; exact MO.out.ty ty (by decide), fun j hj => ?_⟩, ?_⟩
          · rw [← HSN.out] at hj
            exact ⟨(MC.out j hj).1.ty ty (by decide), (MC.out j hj).2.ty ty (by decide)⟩
          · rw [← hW]; exact bset BG.out HW2.out
        rw [hW]
        clear hW
        refine hK.out _ _ (fun h => absurd h (by decide)) ?_
        clear hK
        try simp only [Act.put]
        refine wpAnyT_done (by kernel_rfl) ?_ _
        clear GB KB KC M7 M5 MQ M2 MZ MS MO MC BG CQ C2 C5 C7 ZD SH OW ZZ G k0 k1 k2 k7 k8 HROW hsl
        go_wp2_with fail
        go_roundg (n - (t + 1))
        case rel => exact HN1.out
        case measure => exact HMM.out
      · have hlt' : ¬ (t : Int) < (n : Int) := by omega
        obtain rfl : t = n := by omega
        have y0 := C7.out.at (i := 0) rfl
        have y1 := C7.out.at (i := 1) rfl
        have y2 := C7.out.at (i := 2) rfl
        have c0 := C2.out.at (i := 0) rfl
        have c1 := C2.out.at (i := 1) rfl
        have c2 := C2.out.at (i := 2) rfl
        have f0 := C2.out.fz 0
        have f1 := C2.out.fz 1
        have f2 := C2.out.fz 2
        obtain ⟨V, hV⟩ : ∃ V, ((wr.setCell ⟨w.heap.size + 1, 0, none⟩ (.int .i64 (t : Int))).setCell ⟨w.heap.size + 1, 1, none⟩ (.int .i64 (t : Int))).setCell ⟨w.heap.size + 1, 2, none⟩ (.slice sa sl sc) = V := ⟨_, rfl⟩
        have DR : Hid (Cel V (w.heap.size + 1) 24 [.int .i64 (t : Int), .int .i64 (t : Int), .slice sa sl sc]) := by unfold Hid; rw [← hV]; exact ((C2.out.set 0 _).set 1 _).set 2 _
        have FF : Hid (Invd w t P Q KW (.returned (.tuple #[.agg #[.int .i64 (t : Int), .int .i64 (t : Int), .slice sa sl sc], .int .i64 0])) V) := by
          have ty : Ty 24 wr V := by rw [← hV]; exact ((Ty.set C2.out).trans (Ty.set (C2.out.set 0 _))).trans (Ty.set ((C2.out.set 0 _).set 1 _))
          refine ⟨rq L d, pv, ERR.out, EQV.out, ?_, .inr ⟨by rw [HPL.out]; omega, sa, sc, C, by rw [HSL.out], by rw [HSL.out]; exact OW.out.ty ty (by decide), fun j hj => ?_⟩⟩
          · rw [← hV]
            have h : w.heap.size ≤ w.heap.size + 1 := by omega
            exact bset (bset (bset G.out h) h) h
          · rw [HSL.out] at hj
            have h := ZZ.out j hj
            rw [rq_divInt] at h
            exact ⟨h.1.ty ty (by decide), h.2.ty ty (by decide)⟩
        have EV := hid hV
        clear hV CQ C2 C5 C7 ZD SH OW ZZ G HG
        go_wp2
        rw [EV.out]
        exact bodyPost_ret (qback2 Tryz.results24 DR.out _ (by rfl) (by rfl)) rfl FF.out
end Go.Proofs.YthpldhaolpmneaaGreat
