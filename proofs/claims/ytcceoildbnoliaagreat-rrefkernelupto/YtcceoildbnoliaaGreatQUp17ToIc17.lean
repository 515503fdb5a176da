/-
  QUp17ToIc17: Up17, At17, Ic17, joined.
-/
import Derived.Test.YtcceoildbnoliaaGreatQCo17
import Derived.Test.YtcceoildbnoliaaGreatQRv17
import Derived.Test.YtcceoildbnoliaaGreatQSe17
import Derived.Test.YtcceoildbnoliaaGreatQEm17ToOv17
import Derived.Test.YtcceoildbnoliaaGreatQDu12ToTailL
import Derived.Test.YtcceoildbnoliaaGreatQEach9ToPr12

/- Up17 -/
namespace Go.Proofs.YtcceoildbnoliaaGreat
open Go.RowKit
set_option linter.unusedVariables false
set_option linter.unusedSimpArgs false

theorem Cls.turn {B gc c r j0 cap : Nat} {a : Option Addr} {C : Nat → Nat → Nat → Value} {D : Nat → Nat → Value} {X X' : World} (h : Cls B gc c r 0 C X) (hj : j0 < c) (hc : X.cell? ⟨gc, j0, none⟩ = some (.slice a r cap)) (hO : Own4 B X' (.slice a r cap) r D) (ht : Touch (fun b => (Value.slice a r cap).ownBlock = some b) X X') :
    Cls B gc c r 0 (fun j => if j = j0 then D else C j) X' := by
  obtain ⟨vs, h1, h2, h3, h4⟩ := h
  have el : ∀ j, ln17 r 0 j = r := fun j => by unfold ln17; rw [if_neg (by omega)]
  obtain ⟨a0, cap0, e1, e2⟩ := h3 j0 hj
  rw [el] at e1 e2
  have eu : (Value.slice a0 r cap0) = .slice a r cap := by
    have := h1.at e1
    rw [hc] at this
    exact (Option.some.inj this).symm
  rw [eu] at e1 e2
  have hg : Cel X' gc 22 vs := by
    unfold Cel
    rw [ht.block gc h1.blk fun q => ?_]
    · exact h1
    · obtain ⟨_, _, L, e⟩ := e2.own q
      rw [show X.heap[gc]? = _ from h1] at e
      simp at e
  refine ⟨vs, hg, h2, fun j hjc => ?_, h4⟩
  obtain ⟨aj, cj, f1, f2⟩ := h3 j hjc
  rw [el] at f1 f2 ⊢
  by_cases q : j = j0
  · subst q
    rw [e1] at f1
    have f1' := (Option.some.inj f1)
    refine ⟨a, cap, e1, ?_⟩
    show Own4 B X' _ r (if j = j then D else C j)
    rw [if_pos rfl]
    exact hO
  · refine ⟨aj, cj, f1, ?_⟩
    show Own4 B X' _ r (if j = j0 then D else C j)
    rw [if_neg q]
    exact f2.keep fun b hb => ht.block b (f2.own hb).2.1 fun p => q (h4 j j0 b _ _ f1 e1 hb p)
theorem Cls.congr {B gc c r : Nat} {C D : Nat → Nat → Nat → Value} {w : World} (h : Cls B gc c r 0 C w) (e : ∀ j, j < c → C j = D j) : Cls B gc c r 0 D w := by
  obtain ⟨vs, h1, h2, h3, h4⟩ := h
  refine ⟨vs, h1, h2, fun j hj => ?_, h4⟩
  rw [← e j hj]
  exact h3 j hj
/-- The upended columns' numbers. -/
def upP (r c : Nat) (P : Nat → Int) (l i : Nat) : Int := P ((r - 1 - i) * c + l)
def UpH17 (w : World) (gc c r : Nat) (C : Nat → Nat → Nat → Value) (gk : Nat) (s : Value) (wx : World) : Prop := ∃ t : Nat, s = .int .i64 (t : Int) ∧ t ≤ c ∧ gk = c - t ∧ Cls w.heap.size gc c r 0 (fun j => if j < t then rv4 r (C j) else C j) wx ∧ Below w.heap.size w wx
/-- What upended answers. -/
def UpD (w : World) (r c : Nat) (P Q : Nat → Int) (k : Nat) (e : Ending) (w' : World) : Prop := ∃ v, e = .returned v ∧ QLs w' v c r (upP r c P) (upP r c Q) k ∧ Below w.heap.size w w'
set_option maxHeartbeats 3200000 in
set_option maxRecDepth 100000 in
theorem upended17 {w : World} {a : Option Addr} {l cap r c k : Nat} {P Q : Nat → Int} (hv : Qs w (.slice a l cap) l P Q k) (hl : l = r * c) (hr : r ≤ 64) (hc : c ≤ 64) :
    Calls Tryz.prog 45 #[qmv r c (.slice a l cap)] w (UpD w r c P Q k) := by
  have HCO : Hid (∀ {w' : World}, Below w.heap.size w w' → Calls Tryz.prog 50 #[.agg #[.int .i64 (r : Int), .int .i64 (c : Int), .slice a l cap]] w' (CoE w' r c P Q k)) := fun h => columnsOf17c (hv.now h) hl hr hc
  obtain ⟨W0, hW⟩ : ∃ W0, w.alloc (.cells #[.int .i64 (r : Int), .int .i64 (c : Int), .slice a l cap] 24) = W0 := ⟨_, rfl⟩
  obtain ⟨b0, sz0⟩ := alo1 w (.cells #[.int .i64 (r : Int), .int .i64 (c : Int), .slice a l cap] 24)
  rw [hW] at b0 sz0
  have CQ : Hid (Cel W0 w.heap.size 24 [.int .i64 (r : Int), .int .i64 (c : Int), .slice a l cap]) := by unfold Hid; rw [← hW]; exact Cel.new w _ _
  have c0 := CQ.out.at (i := 0) rfl
  have c1 := CQ.out.at (i := 1) rfl
  have c2 := CQ.out.at (i := 2) rfl
  rw [← hW] at c0 c1 c2
  have B0 := hid b0
  have EW := hid hW
  have HC2 := hid (HCO.out b0)
  clear hv hl b0 sz0 hW CQ HCO
  show Calls Tryz.prog 45 #[.agg #[.int .i64 (r : Int), .int .i64 (c : Int), .slice a l cap]] w _
  go_enter Tryz.func45, Tryz.ntmps45
  go_wp2_with fail
  rw [EW.out]
  refine HC2.out.mono ?_
  rintro e w1 ⟨gc, C, rfl, hgc, hcls, hz, b1⟩
  have HZ := hid hz
  have HSZ : Hid (w.heap.size ≤ W0.heap.size) := B0.out.size
  have H0 : Hid (UpH17 W0 gc c r C c (.int .i64 0) w1) := ⟨0, rfl, Nat.zero_le _, rfl, hcls.congr fun j hj => by rw [if_neg (by omega)], b1⟩
  clear hgc hcls hz b1 HC2 c0 c1 c2 EW
  go_wp2_with fail
  go_loopg [10] c (fun gk s wx => UpH17 W0 gc c r C gk s wx)
  case atStart => exact H0.out
  case round =>
    obtain ⟨t, rfl, htc, rfl, hcl, hb⟩ := hrel
    have HCL := hid hcl
    have HB := hid hb
    clear hcl hb H0
    by_cases hlt : t < c
    · have hlt' : (t : Int) < (c : Int) := by omega
      obtain ⟨at_, capt, t1, t2, t3⟩ : ∃ at_ capt, wr.cell? ⟨gc, t, none⟩ = some (.slice at_ r capt) ∧ wr.frozen? ⟨gc, t, none⟩ = false ∧ Own4 W0.heap.size wr (.slice at_ r capt) r (C t) := by
        obtain ⟨vs, h1, h2, h3, h4⟩ := HCL.out
        obtain ⟨a0, cap0, e1, e2⟩ := h3 t hlt
        have el : ln17 r 0 t = r := by unfold ln17; rw [if_neg (by omega)]
        rw [el] at e1 e2
        have e2' : Own4 W0.heap.size wr (.slice a0 r cap0) r (if t < t then rv4 r (C t) else C t) := e2
        rw [if_neg (by omega)] at e2'
        replace e2 := e2'
        exact ⟨a0, cap0, h1.at e1, h1.fz t, e2⟩
      have HRV := hid (reverse4 t3 (by omega))
      have HT1 := hid t1
      have HOW := hid t3
      clear t3
      go_wp2_with fail
      refine HRV.out.mono ?_
      rintro e w2 ⟨rfl, hO, hT⟩
      have HN : Hid (UpH17 W0 gc c r C (c - (t + 1)) (.int .i64 ((t + 1 : Nat) : Int)) w2) := by
        refine ⟨t + 1, rfl, by omega, rfl, (HCL.out.turn hlt HT1.out hO hT).congr fun j hj => ?_, ?_⟩
        · by_cases q : j = t
          · subst q; rw [if_pos rfl, if_pos (by omega)]
          · rw [if_neg q]
            by_cases p : j < t
            · rw [if_pos p, if_pos (by omega)]
            · rw [if_neg p, if_neg (by omega)]
        · exact HB.out.trans (hT.below17 (fun b hb => (HOW.out.own hb).1) HB.out.size)
      have HM : Hid (c - (t + 1) < c - t) := by unfold Hid; omega
      clear hO hT HRV HT1 HOW HCL HB t1 t2
      go_wp2_with fail
      go_roundg (c - (t + 1))
      case rel => exact HN.out
      case measure => exact HM.out
    · have hlt' : ¬ (t : Int) < (c : Int) := by omega
      obtain rfl : t = c := by omega
      have FF : Hid (UpD w r t P Q k (.returned (.slice (some ⟨gc, 0, none⟩) t t)) wr) := by
        refine ⟨_, rfl, Cls.qls (C := fun j => rv4 r (C j)) (HCL.out.congr fun j hj => by rw [if_pos hj]) (by omega) fun j i hj hi => ?_, below_step B0.out HB.out⟩
        have h := HZ.out j (r - 1 - i) hj (by omega)
        exact ⟨h.1.now HB.out, h.2.now HB.out⟩
      clear HCL HB HZ
      go_wp2
      go_ret
      exact FF.out
end Go.Proofs.YtcceoildbnoliaaGreat

/- At17 -/
namespace Go.Proofs.YtcceoildbnoliaaGreat
open Go.RowKit
set_option linter.unusedVariables false
set_option linter.unusedSimpArgs false
attribute [local go_sem] st_fn17

theorem zm_zero17 (w : World) (k : Nat) : Zm 0 w (.agg #[.bool false, .slice none 0 0]) 0 k := ⟨false, [], none, 0, rfl, Mine.nil _ _, ⟨WF.nil, rfl⟩, fun _ => rfl, by simp [iv, val], Nat.zero_le _⟩
theorem Rw17.start {w : World} {g n : Nat} (h : Arr w g (List.replicate n zpair)) (k : Nat) : Rw17 w g n (fun _ => 0) k := by
  refine ⟨_, h, by simp, fun j p z hp hz => ?_⟩
  have hz' : z = 0 := by
    rw [List.getElem?_map] at hz
    obtain ⟨y, _, e⟩ := Option.map_eq_some_iff.1 hz
    exact e.symm
  rw [List.eq_of_mem_replicate (List.mem_of_getElem? hp), hz']
  exact zm_zero17 w k
theorem Rw17.at {w : World} {g n k j : Nat} {F : Nat → Int} (h : Rw17 w g n F k) (hj : j < n) : ∃ m a l c, w.cell? ⟨g, j * 2, none⟩ = some (.bool m) ∧ w.cell? ⟨g, j * 2 + 1, none⟩ = some (.slice a l c) ∧ w.frozen? ⟨g, j * 2, none⟩ = false ∧ w.frozen? ⟨g, j * 2 + 1, none⟩ = false ∧ Zm 0 w (.agg #[.bool m, .slice a l c]) (F j) k := by
  obtain ⟨ps, h1, h2⟩ := h
  have hl : ps.length = n := by rw [h2.1]; simp
  have hp : ps[j]? = some (ps[j]'(by omega)) := List.getElem?_eq_getElem (by omega)
  have hq : ((List.range n).map F)[j]? = some (F j) := by simp [hj]
  obtain ⟨m, a, l, c, e⟩ := h1.2 _ (List.getElem_mem (l := ps) (n := j) (by omega))
  have q := h1.at hp
  have z := h2.2 j _ _ hp hq
  rw [e] at q z
  exact ⟨m, a, l, c, q.1, q.2, h1.1.fz _, h1.1.fz _, z⟩
theorem Rw17.put {w : World} {g n k j : Nat} {F : Nat → Int} {x y : Value} {z : Int} (h : Rw17 w g n F k) (hj : j < n) (hz : Zm 0 w (.agg #[x, y]) z k) : Rw17 ((w.setCell ⟨g, j * 2, none⟩ x).setCell ⟨g, j * 2 + 1, none⟩ y) g n (fun i => if i = j then z else F i) k ∧ Ty 45 w ((w.setCell ⟨g, j * 2, none⟩ x).setCell ⟨g, j * 2 + 1, none⟩ y) := by
  obtain ⟨ps, h1, h2⟩ := h
  have hty : Ty 45 w ((w.setCell ⟨g, j * 2, none⟩ x).setCell ⟨g, j * 2 + 1, none⟩ y) := (Ty.set h1.1).trans (Ty.set (h1.1.set _ _))
  have hl : ps.length = n := by rw [h2.1]; simp
  refine ⟨⟨ps.set j (x, y), h1.put (by rw [hl]; exact hj) hz.zi.isI, by simp [hl], fun i p q hp hq => ?_⟩, hty⟩
  have hin : i < n := by simpa using (List.getElem?_eq_some_iff.1 hq).1
  have hq' : (if i = j then z else F i) = q := by simpa [hin] using hq
  by_cases e : i = j
  · subst e
    rw [List.getElem?_set_self (by rw [hl]; exact hj), Option.some.injEq] at hp
    rw [if_pos rfl] at hq'
    subst hp
    subst hq'
    exact hz.ty hty (by decide)
  · rw [List.getElem?_set_ne (by omega)] at hp
    rw [if_neg e] at hq'
    subst hq'
    exact (h2.2 i p (F i) hp (by simp [hin])).ty hty (by decide)
/-- What stands at the pivots that have been gone through. -/
def pvF (pv : List Nat) (L : Nat → Nat → Int) (col i p : Nat) : Int := if p ∈ pv.take i then L (pv.idxOf p) col else 0
theorem pvF_step {pv : List Nat} {L : Nat → Nat → Int} {col i p : Nat} (hi : i < pv.length) (hx : pv.idxOf (pv.getD i 0) = i) : (if p = pv.getD i 0 then L i col else pvF pv L col i p) = pvF pv L col (i + 1) p := by
  have e : pv.take (i + 1) = pv.take i ++ [pv.getD i 0] := by
    rw [List.take_add_one, List.getD_eq_getElem?_getD, List.getElem?_eq_getElem hi]; rfl
  unfold pvF
  rw [e]
  by_cases q : p = pv.getD i 0
  · rw [if_pos q, if_pos (by rw [q]; simp), q, hx]
  · rw [if_neg q]
    by_cases r : p ∈ pv.take i
    · rw [if_pos r, if_pos (by simp [r])]
    · rw [if_neg r, if_neg (by simp [r, q]; intro h; exact q (by simpa [hi] using h))]
def ApH (w : World) (g n : Nat) (pv : List Nat) (L : Nat → Nat → Int) (col k gk : Nat) (s : Value) (wx : World) : Prop := ∃ i : Nat, s = .int .i64 (i : Int) ∧ i ≤ pv.length ∧ gk = pv.length - i ∧ Rw17 wx g n (pvF pv L col i) k ∧ Below w.heap.size w wx
/-- What atPivots answers. -/
def ApD (w : World) (n : Nat) (pv : List Nat) (L : Nat → Nat → Int) (col k : Nat) (e : Ending) (w' : World) : Prop := ∃ g, e = .returned (.slice (some ⟨g, 0, none⟩) n n) ∧ w.heap.size ≤ g ∧ Rw17 w' g n (pvF pv L col pv.length) k ∧ Below w.heap.size w w'
set_option maxHeartbeats 3200000 in
set_option maxRecDepth 100000 in
theorem atPivots17 {w : World} {nx : Bool} {ax : Option Addr} {lx cx : Nat} {la : Option Addr} {lc : Nat} {nd : Bool} {ad : Option Addr} {ld cd : Nat} {va : Option Addr} {pl vc m nn n col k B B' : Nat} {gs : Nat → Nat} {L : Nat → Nat → Int} {pv : List Nat}
    (hS : Sh17 B w (.slice la m lc) m nn gs L k) (hI : Ivs B' w (.slice va pl vc) pv) (hp : pv.length = pl) (hpm : pl ≤ m) (hpn : ∀ t, t < pl → pv.getD t 0 < n) (hx : ∀ t, t < pl → pv.idxOf (pv.getD t 0) = t) (hc : col < nn) (hn : n ≤ 64) (hnn : nn ≤ 128) (hm : m ≤ 64) :
    Calls Tryz.prog 48 #[.agg #[.bool nx, .slice ax lx cx, fnZ17, fnM17, fnS17, fnO17, .slice la m lc, .bool nd, .slice ad ld cd, .slice va pl vc], .int .i64 (col : Int), .int .i64 (n : Int)] w (ApD w n pv L col k) := by
  subst hp
  obtain ⟨W0, hW⟩ : ∃ W0, w.alloc (.cells #[.bool nx, .slice ax lx cx, fnZ17, fnM17, fnS17, fnO17, .slice la m lc, .bool nd, .slice ad ld cd, .slice va pv.length vc] 69) = W0 := ⟨_, rfl⟩
  obtain ⟨b0, sz0⟩ := alo1 w (.cells #[.bool nx, .slice ax lx cx, fnZ17, fnM17, fnS17, fnO17, .slice la m lc, .bool nd, .slice ad ld cd, .slice va pv.length vc] 69)
  rw [hW] at b0 sz0
  have CE : Hid (Cel W0 w.heap.size 69 [.bool nx, .slice ax lx cx, fnZ17, fnM17, fnS17, fnO17, .slice la m lc, .bool nd, .slice ad ld cd, .slice va pv.length vc]) := by unfold Hid; rw [← hW]; exact Cel.new w _ _
  have HS := hid (hS.now b0)
  have HI := hid (hI.now b0)
  have HPN := hid hpn
  have HX := hid hx
  have B0 := hid b0
  have EW := hid hW
  have HSZ := hid sz0
  clear hS hI hpn hx b0 hW sz0
  go_enter Tryz.func48, Tryz.ntmps48
  go_wp2_with (at_make; refine wpList_make_pairs9 _ rfl _ _ rfl _ _ n n rfl rfl rfl rfl (Nat.le_refl _) (by omega) ?_)
  rw [EW.out]
  intro w1 hF hb1 hsz
  replace hb1 : Below W0.heap.size W0 w1 := by rw [HSZ.out]; exact hb1
  have C1 := hid (CE.out.step hb1)
  obtain ⟨g, hg⟩ : ∃ g, w.heap.size + 1 = g := ⟨_, rfl⟩
  have EG : Hid (W0.heap.size = g) := by unfold Hid; rw [HSZ.out]; exact hg
  have HG0 : Hid (w.heap.size ≤ g ∧ w.heap.size ≠ g) := by unfold Hid; omega
  have H0 : Hid (ApH W0 g n pv L col k pv.length (.int .i64 0) w1) := ⟨0, rfl, Nat.zero_le _, rfl, by rw [← hg]; exact (Rw17.start hF k).congr fun j hj => by unfold pvF; rw [if_neg (by simp)], hb1⟩
  have x9 := C1.out.at (i := 9) rfl
  obtain ⟨bq, hbq⟩ : ∃ bq, w.heap.size = bq := ⟨_, rfl⟩
  have EQ := hid hbq
  rw [hg]
  rw [hbq] at x9 ⊢
  clear hF hb1 hsz EW hg hbq
  go_wp2_with fail
  clear x9
  go_loopg [15] pv.length (fun gk s wx => ApH W0 g n pv L col k gk s wx)
  case atStart => exact H0.out
  case round =>
    clear H0 C1
    obtain ⟨i, rfl, hil, rfl, hR, hb⟩ := hrel
    have RW := hid hR
    have G := hid hb
    clear hR hb
    by_cases hlt : i < pv.length
    · have hlt' : (i : Int) < (pv.length : Int) := by omega
      have him : i < m := by omega
      obtain ⟨vb, rfl⟩ : ∃ vb, va = some ⟨vb, 0, none⟩ := by
        obtain ⟨a, cap, e1, e2, e3⟩ := HI.out.form
        obtain ⟨g', e4⟩ := e3 (by omega)
        simp only [Value.slice.injEq] at e1
        exact ⟨g', by rw [e1.1, e4]⟩
      obtain ⟨Lb, rfl⟩ : ∃ Lb, la = some ⟨Lb, 0, none⟩ := by
        rcases HS.out.1 with ⟨h0, h⟩ | ⟨h0, Lb, cap, r, e, _⟩
        · omega
        · simp only [Value.slice.injEq] at e
          exact ⟨Lb, e.1⟩
      have p0 := (HI.out.now G.out).at hlt
      have hpv := HPN.out i hlt
      have EPV := hid (pvF_step (pv := pv) (L := L) (col := col) (i := i) (p := 0) hlt (HX.out i hlt))
      have HXI := hid (HX.out i hlt)
      obtain ⟨a, ha⟩ : ∃ a, pv.getD i 0 = a := ⟨_, rfl⟩
      rw [ha] at p0 hpv
      have EA := hid ha
      have S1 := HS.out.now G.out
      have ln := S1.line.2.2.2 i him
      have l0 := ln.1
      obtain ⟨nf, af, lf, cf, y0, y1, y2, y3, zf⟩ := (S1.2.2 i him).2.at hc
      have CB := CE.out.step G.out
      have c6 := CB.at (i := 6) rfl
      rw [EQ.out] at c6
      obtain ⟨mo, ao, lo, co, q0, q1, q2, q3, _⟩ := RW.out.at hpv
      have PUT := RW.out.put hpv zf
      have hil2 : a < n := hpv
      have HB2 : Hid (W0.heap.size ≤ g) := by unfold Hid; rw [EG.out]; exact Nat.le_refl _
      have HN : Hid (ApH W0 g n pv L col k (pv.length - (i + 1)) (.int .i64 ((i + 1 : Nat) : Int)) ((wr.setCell ⟨g, a * 2, none⟩ (.bool nf)).setCell ⟨g, a * 2 + 1, none⟩ (.slice af lf cf))) := by
        refine ⟨i + 1, rfl, by omega, rfl, PUT.1.congr fun j hj => ?_, bset (bset G.out HB2.out) HB2.out⟩
        rw [← EA.out]
        exact pvF_step hlt HXI.out
      have HM : Hid (pv.length - (i + 1) < pv.length - i) := by unfold Hid; omega
      clear S1 ln PUT zf CB hpv ha HB2 EPV
      unfold rowv at l0
      go_wp2_with fail
      clear p0 l0 y0 y1 y2 y3 c6 q0 q1 q2 q3
      go_roundg (pv.length - (i + 1))
      case rel => exact HN.out
      case measure => exact HM.out
    · have hlt' : ¬ (i : Int) < (pv.length : Int) := by omega
      obtain rfl : i = pv.length := by omega
      have FF : Hid (ApD w n pv L col k (.returned (.slice (some ⟨g, 0, none⟩) n n)) wr) := ⟨g, rfl, HG0.out.1, RW.out, below_step B0.out G.out⟩
      clear RW G
      go_wp2
      go_ret
      exact FF.out
end Go.Proofs.YtcceoildbnoliaaGreat

/- Ic17 -/
namespace Go.Proofs.YtcceoildbnoliaaGreat
open Go.RowKit
set_option linter.unusedVariables false

def IcH (w : World) (l : List Nat) (x gk : Nat) (s8 : Value) (wx : World) : Prop := ∃ i : Nat, s8 = .int .i64 (i : Int) ∧ i ≤ l.length ∧ gk = l.length - i ∧ (∀ j, j < i → l.getD j 0 ≠ x) ∧ wx = w
theorem mem_get17 {l : List Nat} {i : Nat} (h : i < l.length) : l.getD i 0 ∈ l := by
  rw [List.getD_eq_getElem?_getD, List.getElem?_eq_getElem h]; exact List.getElem_mem h
theorem get_mem17 {l : List Nat} {x : Nat} (h : x ∈ l) : ∃ i, i < l.length ∧ l.getD i 0 = x := by
  obtain ⟨i, hi, e⟩ := List.mem_iff_getElem.1 h
  exact ⟨i, hi, by rw [List.getD_eq_getElem?_getD, List.getElem?_eq_getElem hi]; exact e⟩
set_option maxHeartbeats 1600000 in
set_option maxRecDepth 100000 in
theorem index_c17 {B : Nat} {w : World} {a : Option Addr} {n c : Nat} {l : List Nat} {x : Nat} (h : Ivs B w (.slice a n c) l) (hn : l.length = n) (hl : n ≤ 4096) : Calls Tryz.prog 80 #[.slice a n c, .int .i64 (x : Int)] w fun e w' => ∃ z : Int, e = .returned (.int .i64 z) ∧ (decide (z ≥ 0) = decide (x ∈ l)) ∧ w' = w := by
  have HI := hid h
  have HF : Hid (0 < n → ∃ b, a = some ⟨b, 0, none⟩) := fun q => by
    obtain ⟨a', cap, e1, e2, e3⟩ := h.form
    obtain ⟨g, e4⟩ := e3 (by omega)
    simp only [Value.slice.injEq] at e1
    exact ⟨g, by rw [e1.1, e4]⟩
  have H0 : Hid (IcH w l x n (.int .i64 0) w) := ⟨0, rfl, Nat.zero_le _, by rw [hn]; rfl, fun j hj => by omega, rfl⟩
  have HN := hid hn
  clear h hn
  go_enter Tryz.func80, Tryz.ntmps80
  go_wp2_with fail
  go_loopg [8] n (fun gk s8 wx => IcH w l x gk s8 wx)
  case atStart => exact H0.out
  case round =>
    clear H0
    obtain ⟨i, rfl, hil, hg, hj, hwx⟩ := hrel
    rw [hwx]
    clear hwx wr
    rw [HN.out] at hil hg
    have HG := hid hg
    have HJ := hid hj
    clear hg hj
    by_cases hlt : i < n
    · have hlt' : (i : Int) < (n : Int) := by omega
      have hw := wrapI9 (i := i) (by omega)
      obtain ⟨b, rfl⟩ := HF.out (by omega)
      have hil2 : i < l.length := by rw [HN.out]; exact hlt
      have c0 := HI.out.at hil2
      obtain ⟨y, hy⟩ : ∃ y, l.getD i 0 = y := ⟨_, rfl⟩
      rw [hy] at c0
      have HY := hid hy
      clear hy
      by_cases hxy : x = y
      · have hb : ((x : Int) == (y : Int)) = true := by simp [hxy]
        have hxi : (x : Int) = (y : Int) := by omega
        have FIN : Hid (decide ((i : Int) ≥ 0) = decide (x ∈ l)) := by
          unfold Hid
          have h1 : x ∈ l := by rw [hxy, ← HY.out]; exact mem_get17 hil2
          simp [h1]
        clear HG HJ HI hxy hxi
        go_wp2
        go_ret
        exact ⟨_, rfl, FIN.out, rfl⟩
      · have hb : ((x : Int) == (y : Int)) = false := by simp; omega
        have hxi : ¬ (x : Int) = (y : Int) := by omega
        have HN1 : Hid (IcH w l x (n - (i + 1)) (.int .i64 ((i + 1 : Nat) : Int)) w) := ⟨i + 1, rfl, by rw [HN.out]; omega, by rw [HN.out], fun j hj => by
          by_cases e : j = i
          · subst e; rw [HY.out]; omega
          · exact HJ.out j (by omega), rfl⟩
        have HMM : Hid (n - (i + 1) < gk) := by unfold Hid; rw [HG.out]; omega
        clear HG HJ HI hxy
        go_wp2_with fail
        go_roundg (n - (i + 1))
        case rel => exact HN1.out
        case measure => exact HMM.out
    · have hlt' : ¬ (i : Int) < (n : Int) := by omega
      have FIN : Hid (decide ((-1 : Int) ≥ 0) = decide (x ∈ l)) := by
        unfold Hid
        have h1 : ¬ x ∈ l := fun q => by
          obtain ⟨j, hj, e⟩ := get_mem17 q
          rw [HN.out] at hj
          exact HJ.out j (by omega) e
        simp [h1]
      clear HG HJ HI
      go_wp2
      go_ret
      exact ⟨-1, rfl, by have := FIN.out; simpa using this, rfl⟩
set_option maxHeartbeats 800000 in
set_option maxRecDepth 100000 in
theorem contains17 {B : Nat} {w : World} {a : Option Addr} {n c : Nat} {l : List Nat} {x : Nat} (h : Ivs B w (.slice a n c) l) (hn : l.length = n) (hl : n ≤ 4096) : Calls Tryz.prog 46 #[.slice a n c, .int .i64 (x : Int)] w fun e w' => e = .returned (.bool (decide (x ∈ l))) ∧ w' = w := by
  have HI := hid (index_c17 (x := x) h hn hl)
  clear h hn
  go_enter Tryz.func46, Tryz.ntmps46
  go_wp2_with fail
  refine HI.out.mono ?_
  rintro e w1 ⟨z, rfl, hz, hw1⟩
  rw [hw1]
  have HZ := hid hz
  clear hw1 hz HI
  go_wp2
  go_ret
  refine ⟨?_, rfl⟩
  rw [← HZ.out]
  rfl
end Go.Proofs.YtcceoildbnoliaaGreat
