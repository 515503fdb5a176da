/-
  Cx17: cross.
-/
import Derived.Test.YtcceoildbnoliaaGreatQDu12ToTailL
namespace Go.Proofs.YtcceoildbnoliaaGreat
open Go.RowKit
set_option linter.unusedVariables false
set_option linter.unusedSimpArgs false

theorem isz_yes {w : World} {v : Value} {z : Int} {k : Nat} (h : Zi w v z k) (hz : z = 0) : Calls Tryz.prog 93 #[v] w fun e w' => e = .returned (.bool true) ∧ Below w.heap.size w w' := (isz_any h).mono fun e w' q => by
  obtain ⟨rfl, b⟩ := q
  rw [decide_eq_true hz]; exact ⟨rfl, b⟩
theorem isz_no {w : World} {v : Value} {z : Int} {k : Nat} (h : Zi w v z k) (hz : z ≠ 0) : Calls Tryz.prog 93 #[v] w fun e w' => e = .returned (.bool false) ∧ Below w.heap.size w w' := (isz_any h).mono fun e w' q => by
  obtain ⟨rfl, b⟩ := q
  rw [decide_eq_false hz]; exact ⟨rfl, b⟩
theorem isz_b {w : World} {v : Value} {z : Int} {k : Nat} (h : Zi w v z k) : Calls Tryz.prog 93 #[v] w fun e w' => ∃ b : Bool, e = .returned (.bool b) ∧ (b = true ↔ z = 0) ∧ Below w.heap.size w w' := (isz_any h).mono fun e w' q => by
  obtain ⟨rfl, b⟩ := q
  exact ⟨_, rfl, decide_eq_true_iff, b⟩
/-- The box of an elimination. -/
def Ebx (w : World) (Bs : Nat) (x y lv nd sd pv : Value) : Prop := Cel w Bs 69 [x, y, fnZ17, fnM17, fnS17, fnO17, lv, nd, sd, pv]
/-- May an entry stay? -/
def Stay17 (W : World) (X T N0 : Int) (s : Value) (wx : World) : Prop := ∃ b : Bool, s = .bool b ∧ (b = true ↔ X = 0 ∧ (T = 0 ∨ N0 = 0)) ∧ Below W.heap.size W wx
def Crossed (w : World) (g n : Nat) (F1 : Nat → Int) (kw : Nat) (e : Ending) (w' : World) : Prop := e = .returned (.tuple #[]) ∧ ∃ ps, Arr w' g ps ∧ Zms w' ps ((List.range n).map F1) kw ∧ Touch (· = g) w w'
theorem mx13_same {F0 F1 : Nat → Int} {n j : Nat} (h : F1 j = F0 j) : (List.range n).map (mx13 F0 F1 j) = (List.range n).map (mx13 F0 F1 (j + 1)) := List.map_congr_left fun t _ => by
  unfold mx13
  by_cases q : t < j
  · rw [if_pos q, if_pos (by omega)]
  · by_cases e : t = j
    · subst e; rw [if_neg q, if_pos (by omega), h]
    · rw [if_neg q, if_neg (by omega)]
set_option maxHeartbeats 6400000 in
set_option maxRecDepth 100000 in
theorem cross_any {w : World} {Bs g gp n c kw : Nat} {F G F1 : Nat → Int} {d : Int} {x y lv pv : Value} {nd : Bool} {ad : Option Addr} {ld cd : Nat} {ps qs : List (Value × Value)} (hE : Ebx w Bs x y lv (.bool nd) (.slice ad ld cd) pv) (hd : Zm 0 w (.agg #[.bool nd, .slice ad ld cd]) d kw) (hd0 : d ≠ 0)
    (hA : Arr w g ps) (hz : Zms w ps ((List.range n).map F) kw) (hA' : Arr w gp qs) (hz' : Zms w qs ((List.range n).map G) kw) (hg : gp ≠ g) (hc : c < n)
    (h1 : ∀ j, j < n → G c * F j - F c * G j = d * F1 j) (hb : ∀ j, j < n → ((F1 j).natAbs : Int) < pw kw) (hkw : kw ≤ 274877906944) (hn : n ≤ 128) :
    Calls Tryz.prog 117 #[.pointer (some ⟨Bs, 0, none⟩), .slice (some ⟨g, 0, none⟩) n n, .slice (some ⟨gp, 0, none⟩) n n, .int .i64 (c : Int)] w (Crossed w g n F1 kw) := by
  obtain ⟨np, ap, lp, cp, p0, p1, -, -, zp⟩ := hz'.at hA' (t := c) (by simp; exact hc)
  obtain ⟨nt, at0, lt, ct, t0, t1, -, -, zt⟩ := hz.at hA (t := c) (by simp; exact hc)
  rw [rmap_at hc] at zp zt
  have hc' : (c : Int) < (n : Int) := by omega
  have KS : Hid (∀ wx, Touch (· = g) w wx → Ebx wx Bs x y lv (.bool nd) (.slice ad ld cd) pv ∧ Zm 0 wx (.agg #[.bool nd, .slice ad ld cd]) d kw ∧ Arr wx gp qs ∧ Zms wx qs ((List.range n).map G) kw) := fun wx ht =>
    ⟨Cel.ty13 hE (ht.ty13 hA) (by decide), hd.ty (ht.ty13 hA) (by decide), hA'.touch ht hg, hz'.ty (ht.ty13 hA) (by decide)⟩
  have HF : Hid (∀ j, j < n → ((F1 j).natAbs : Int) < pw kw) := hb
  have HE : Hid (∀ j, j < n → G c * F j - F c * G j = d * F1 j) := h1
  have HD0 := hid hd0
  have HKW := hid hkw
  have ZP := hid zp
  have ZT := hid zt
  have HA0 := hid hA
  have HZ0 := hid hz
  have HC := hid hc
  have FIN : Hid (∀ wx, (∃ ps, Arr wx g ps ∧ Zms wx ps ((List.range n).map F1) kw ∧ Touch (· = g) w wx) → Crossed w g n F1 kw (.returned (.tuple #[])) wx) := fun wx h => ⟨rfl, h⟩
  have hgw : g < w.heap.size := hA.1.blk
  clear hE hd hd0 hA hz hA' hz' hg hc h1 hb hkw zp zt
  go_enter Tryz.func117, Tryz.ntmps117
  go_wp2_with fail
  go_cut [8, 9] from 10 (fun s1 s2 wx => Bx2 w wx s1 s2 (.bool np) (.slice ap lp cp) (.bool nt) (.slice at0 lt ct))
  case first =>
    have KB : Hid (∀ w', Below w.heap.size w w' → w'.cell? ⟨gp, c * 2, none⟩ = some (.bool np) ∧ w'.cell? ⟨gp, c * 2 + 1, none⟩ = some (.slice ap lp cp) ∧ w'.cell? ⟨g, c * 2, none⟩ = some (.bool nt) ∧ w'.cell? ⟨g, c * 2 + 1, none⟩ = some (.slice at0 lt ct)) := fun w' h => ⟨cnow h p0, cnow h p1, cnow h t0, cnow h t1⟩
    refine wp_region_tail (fun w' => w'.cell? ⟨gp, c * 2, none⟩ = some (.bool np) ∧ w'.cell? ⟨gp, c * 2 + 1, none⟩ = some (.slice ap lp cp) ∧ w'.cell? ⟨g, c * 2, none⟩ = some (.bool nt) ∧ w'.cell? ⟨g, c * 2 + 1, none⟩ = some (.slice at0 lt ct)) 11 (by kernel_rfl) ?_
    obtain ⟨D1, hD⟩ : ∃ D1, w.drew = D1 := ⟨_, rfl⟩
    have GB : Hid (Below w.heap.size w D1) := by unfold Hid; rw [← hD]; exact (Below.refl _ _).drew
    rw [hD]
    clear hD
    have GZ : Hid (w.heap.size ≤ D1.heap.size) := GB.out.size
    refine wpAnyT_list [(0, (.slice (some ⟨gp, 0, none⟩) n n)), (1, (.int .i64 (c : Int))), (2, (.pointer (some ⟨gp, c * 2, none⟩))), (3, (.agg #[.bool np, .slice ap lp cp])), (4, (.slice (some ⟨g, 0, none⟩) n n)), (5, (.int .i64 (c : Int))), (6, (.pointer (some ⟨g, c * 2, none⟩))), (7, (.agg #[.bool nt, .slice at0 lt ct]))] 8 ?_ (KB.out _ GB.out) ?_
    · simp only [TakesV, gA9, g09, g19, Act.put, sI9, s09, s19]
      (repeat' (first | exact trivial | refine And.intro (Or.inl ⟨by rfl, ?_⟩) ?_)) <;> (intro w hSw; (try dsimp only at hSw); go_simp)
    simp only [actV, gA9, g09, g19, Act.put, sI9, s09, s19]
    refine wpAnyT_two (i := 8) (j := 9) (oi := { dst := some 8, op := Op.alloc 45, type := 0, pos := "elimination.go:53", after := #[], guard := none }) (oj := { dst := some 9, op := Op.alloc 45, type := 0, pos := "elimination.go:53", after := #[], guard := none }) (by kernel_rfl) rfl rfl (fun K hK => ?_) (fun K hK => ?_)
    · skip
      go_simp
      obtain ⟨V2, hW⟩ : ∃ V2, D1.alloc zbox = V2 := ⟨_, rfl⟩
      obtain ⟨b, sz2⟩ := alo1 D1 zbox
      rw [hW] at b sz2
      replace GB := hid (below_step GB.out b)
      have DP : Hid (Duo V2 D1.heap.size (.bool false) (.slice none 0 0)) := by unfold Hid; rw [← hW]; exact Duo.new D1 _ _
      have SP := hid (show w.heap.size ≤ D1.heap.size from GZ.out)
      replace GZ : Hid (w.heap.size ≤ V2.heap.size) := GB.out.size
      clear sz2
      rw [hW]
      clear hW b
      refine hK.out _ _ (fun _ => KB.out _ GB.out) ?_
      clear hK
      try simp only [Act.put]
      refine wpAnyT_one (i := 9) (o := { dst := some 9, op := Op.alloc 45, type := 0, pos := "elimination.go:53", after := #[], guard := none }) (by kernel_rfl) rfl (fun K hK => ?_)
      go_simp
      obtain ⟨V3, hW⟩ : ∃ V3, V2.alloc zbox = V3 := ⟨_, rfl⟩
      obtain ⟨b, sz3⟩ := alo1 V2 zbox
      rw [hW] at b sz3
      replace GB := hid (below_step GB.out b)
      have DT : Hid (Duo V3 V2.heap.size (.bool false) (.slice none 0 0)) := by unfold Hid; rw [← hW]; exact Duo.new V2 _ _
      have ST := hid (show w.heap.size ≤ V2.heap.size from GZ.out)
      replace GZ : Hid (w.heap.size ≤ V3.heap.size) := GB.out.size
      have NE : Hid (D1.heap.size ≠ V2.heap.size) := by unfold Hid; have := DP.out.blk; omega
      replace DP := hid (DP.out.step b)
      clear sz3
      rw [hW]
      clear hW b
      refine hK.out _ _ (fun _ => KB.out _ GB.out) ?_
      clear hK
      try simp only [Act.put]
      refine wpAnyT_one (i := 10) (o := { dst := none, op := Op.store 45 (Operand.tmp 8) (Operand.tmp 16), type := 0, pos := "elimination.go:53", after := #[{ on := 8, ground := Ground.data }, { on := 3, ground := Ground.data }, { on := 0, ground := Ground.phase }, { on := 1, ground := Ground.phase }, { on := 2, ground := Ground.phase }, { on := 3, ground := Ground.phase }, { on := 4, ground := Ground.textOnly Departure.lateStores }, { on := 5, ground := Ground.textOnly Departure.lateStores }, { on := 6, ground := Ground.textOnly Departure.lateStores }, { on := 7, ground := Ground.textOnly Departure.lateStores }, { on := 8, ground := Ground.phase }, { on := 9, ground := Ground.phase }], guard := none }) (by kernel_rfl) rfl (fun K hK => ?_)
      have e0 := DP.out.c0
      have e1 := DP.out.c1
      have e2 := DP.out.fz 0
      have e3 := DP.out.fz 1
      go_simp
      clear e0 e1 e2 e3
      obtain ⟨V4, hW⟩ : ∃ V4, ((V3.setCell ⟨D1.heap.size, 0, none⟩ (.bool np)).setCell ⟨D1.heap.size, 1, none⟩ (.slice ap lp cp)) = V4 := ⟨_, rfl⟩
      replace GB : Hid (Below w.heap.size w V4) := by unfold Hid; rw [← hW]; exact bset (bset GB.out SP.out) SP.out
      have QP : Hid (Duo V4 D1.heap.size (.bool np) (.slice ap lp cp)) := by unfold Hid; rw [← hW]; exact DP.out.set _ _
      replace DT : Hid (Duo V4 V2.heap.size (.bool false) (.slice none 0 0)) := by unfold Hid; rw [← hW]; exact DT.out.box (by have := NE.out; omega) _ _
      clear DP
      rw [hW]
      clear hW
      refine hK.out _ _ (fun _ => KB.out _ GB.out) ?_
      clear hK
      try simp only [Act.put]
      refine wpAnyT_one (i := 11) (o := { dst := none, op := Op.store 45 (Operand.tmp 9) (Operand.tmp 20), type := 0, pos := "elimination.go:53", after := #[{ on := 9, ground := Ground.data }, { on := 7, ground := Ground.data }, { on := 10, ground := Ground.chain }, { on := 0, ground := Ground.phase }, { on := 1, ground := Ground.phase }, { on := 2, ground := Ground.phase }, { on := 3, ground := Ground.phase }, { on := 4, ground := Ground.phase }, { on := 5, ground := Ground.phase }, { on := 6, ground := Ground.phase }, { on := 7, ground := Ground.phase }, { on := 8, ground := Ground.phase }, { on := 9, ground := Ground.phase }, { on := 10, ground := Ground.phase }], guard := none }) (by kernel_rfl) rfl (fun K hK => ?_)
      have e0 := DT.out.c0
      have e1 := DT.out.c1
      have e2 := DT.out.fz 0
      have e3 := DT.out.fz 1
      go_simp
      clear e0 e1 e2 e3
      obtain ⟨V5, hW⟩ : ∃ V5, ((V4.setCell ⟨V2.heap.size, 0, none⟩ (.bool nt)).setCell ⟨V2.heap.size, 1, none⟩ (.slice at0 lt ct)) = V5 := ⟨_, rfl⟩
      replace GB : Hid (Below w.heap.size w V5) := by unfold Hid; rw [← hW]; exact bset (bset GB.out ST.out) ST.out
      have QT : Hid (Duo V5 V2.heap.size (.bool nt) (.slice at0 lt ct)) := by unfold Hid; rw [← hW]; exact DT.out.set _ _
      replace QP : Hid (Duo V5 D1.heap.size (.bool np) (.slice ap lp cp)) := by unfold Hid; rw [← hW]; exact QP.out.box (by have := NE.out; omega) _ _
      clear DT
      rw [hW]
      clear hW
      refine hK.out _ _ (fun h => absurd h (by decide)) ?_
      clear hK
      try simp only [Act.put]
      refine wpAnyT_done (by kernel_rfl) ?_ _
      have FN4 : Hid (Bx2 w V5 (.pointer (some ⟨D1.heap.size, 0, none⟩)) (.pointer (some ⟨V2.heap.size, 0, none⟩)) (.bool np) (.slice ap lp cp) (.bool nt) (.slice at0 lt ct)) := ⟨_, _, rfl, rfl, SP.out, ST.out, by have := NE.out; omega, QP.out, QT.out, GB.out⟩
      clear GB GZ QP QT SP ST NE
      go_wp2_with fail
      go_meet
      exact FN4.out
    · skip
      go_simp
      obtain ⟨V6, hW⟩ : ∃ V6, D1.alloc zbox = V6 := ⟨_, rfl⟩
      obtain ⟨b, sz6⟩ := alo1 D1 zbox
      rw [hW] at b sz6
      replace GB := hid (below_step GB.out b)
      have DT : Hid (Duo V6 D1.heap.size (.bool false) (.slice none 0 0)) := by unfold Hid; rw [← hW]; exact Duo.new D1 _ _
      have ST := hid (show w.heap.size ≤ D1.heap.size from GZ.out)
      replace GZ : Hid (w.heap.size ≤ V6.heap.size) := GB.out.size
      clear sz6
      rw [hW]
      clear hW b
      refine hK.out _ _ (fun _ => KB.out _ GB.out) ?_
      clear hK
      try simp only [Act.put]
      refine wpAnyT_one (i := 8) (o := { dst := some 8, op := Op.alloc 45, type := 0, pos := "elimination.go:53", after := #[], guard := none }) (by kernel_rfl) rfl (fun K hK => ?_)
      go_simp
      obtain ⟨V7, hW⟩ : ∃ V7, V6.alloc zbox = V7 := ⟨_, rfl⟩
      obtain ⟨b, sz7⟩ := alo1 V6 zbox
      rw [hW] at b sz7
      replace GB := hid (below_step GB.out b)
      have DP : Hid (Duo V7 V6.heap.size (.bool false) (.slice none 0 0)) := by unfold Hid; rw [← hW]; exact Duo.new V6 _ _
      have SP := hid (show w.heap.size ≤ V6.heap.size from GZ.out)
      replace GZ : Hid (w.heap.size ≤ V7.heap.size) := GB.out.size
      have NE : Hid (D1.heap.size ≠ V6.heap.size) := by unfold Hid; have := DT.out.blk; omega
      replace DT := hid (DT.out.step b)
      clear sz7
      rw [hW]
      clear hW b
      refine hK.out _ _ (fun _ => KB.out _ GB.out) ?_
      clear hK
      try simp only [Act.put]
      refine wpAnyT_one (i := 10) (o := { dst := none, op := Op.store 45 (Operand.tmp 8) (Operand.tmp 16), type := 0, pos := "elimination.go:53", after := #[{ on := 8, ground := Ground.data }, { on := 3, ground := Ground.data }, { on := 0, ground := Ground.phase }, { on := 1, ground := Ground.phase }, { on := 2, ground := Ground.phase }, { on := 3, ground := Ground.phase }, { on := 4, ground := Ground.textOnly Departure.lateStores }, { on := 5, ground := Ground.textOnly Departure.lateStores }, { on := 6, ground := Ground.textOnly Departure.lateStores }, { on := 7, ground := Ground.textOnly Departure.lateStores }, { on := 8, ground := Ground.phase }, { on := 9, ground := Ground.phase }], guard := none }) (by kernel_rfl) rfl (fun K hK => ?_)
      have e0 := DP.out.c0
      have e1 := DP.out.c1
      have e2 := DP.out.fz 0
      have e3 := DP.out.fz 1
      go_simp
      clear e0 e1 e2 e3
      obtain ⟨V8, hW⟩ : ∃ V8, ((V7.setCell ⟨V6.heap.size, 0, none⟩ (.bool np)).setCell ⟨V6.heap.size, 1, none⟩ (.slice ap lp cp)) = V8 := ⟨_, rfl⟩
      replace GB : Hid (Below w.heap.size w V8) := by unfold Hid; rw [← hW]; exact bset (bset GB.out SP.out) SP.out
      have QP : Hid (Duo V8 V6.heap.size (.bool np) (.slice ap lp cp)) := by unfold Hid; rw [← hW]; exact DP.out.set _ _
      replace DT : Hid (Duo V8 D1.heap.size (.bool false) (.slice none 0 0)) := by unfold Hid; rw [← hW]; exact DT.out.box (by have := NE.out; omega) _ _
      clear DP
      rw [hW]
      clear hW
      refine hK.out _ _ (fun _ => KB.out _ GB.out) ?_
      clear hK
      try simp only [Act.put]
      refine wpAnyT_one (i := 11) (o := { dst := none, op := Op.store 45 (Operand.tmp 9) (Operand.tmp 20), type := 0, pos := "elimination.go:53", after := #[{ on := 9, ground := Ground.data }, { on := 7, ground := Ground.data }, { on := 10, ground := Ground.chain }, { on := 0, ground := Ground.phase }, { on := 1, ground := Ground.phase }, { on := 2, ground := Ground.phase }, { on := 3, ground := Ground.phase }, { on := 4, ground := Ground.phase }, { on := 5, ground := Ground.phase }, { on := 6, ground := Ground.phase }, { on := 7, ground := Ground.phase }, { on := 8, ground := Ground.phase }, { on := 9, ground := Ground.phase }, { on := 10, ground := Ground.phase }], guard := none }) (by kernel_rfl) rfl (fun K hK => ?_)
      have e0 := DT.out.c0
      have e1 := DT.out.c1
      have e2 := DT.out.fz 0
      have e3 := DT.out.fz 1
      go_simp
      clear e0 e1 e2 e3
      obtain ⟨V9, hW⟩ : ∃ V9, ((V8.setCell ⟨D1.heap.size, 0, none⟩ (.bool nt)).setCell ⟨D1.heap.size, 1, none⟩ (.slice at0 lt ct)) = V9 := ⟨_, rfl⟩
      replace GB : Hid (Below w.heap.size w V9) := by unfold Hid; rw [← hW]; exact bset (bset GB.out ST.out) ST.out
      have QT : Hid (Duo V9 D1.heap.size (.bool nt) (.slice at0 lt ct)) := by unfold Hid; rw [← hW]; exact DT.out.set _ _
      replace QP : Hid (Duo V9 V6.heap.size (.bool np) (.slice ap lp cp)) := by unfold Hid; rw [← hW]; exact QP.out.box (by have := NE.out; omega) _ _
      clear DT
      rw [hW]
      clear hW
      refine hK.out _ _ (fun h => absurd h (by decide)) ?_
      clear hK
      try simp only [Act.put]
      refine wpAnyT_done (by kernel_rfl) ?_ _
      have FN4 : Hid (Bx2 w V9 (.pointer (some ⟨V6.heap.size, 0, none⟩)) (.pointer (some ⟨D1.heap.size, 0, none⟩)) (.bool np) (.slice ap lp cp) (.bool nt) (.slice at0 lt ct)) := ⟨_, _, rfl, rfl, SP.out, ST.out, by have := NE.out; omega, QP.out, QT.out, GB.out⟩
      clear GB GZ QP QT SP ST NE
      go_wp2_with fail
      go_meet
      exact FN4.out
  case rest =>
  rename World => Wo
  obtain ⟨bp, bt, rfl, rfl, hbp, hbt, hpt, dp, dt, b⟩ := hcut
  have TW1 : Hid (Touch (· = g) w Wo) := .ofBelow b
  have AR := hid (HA0.out.step b)
  have ZL := hid (HZ0.out.now b)
  replace ZP := hid (ZP.out.now b)
  replace ZT := hid (ZT.out.now b)
  have DP := hid dp
  have DT := hid dt
  have hgp : bp ≠ g := by omega
  have hgt : bt ≠ g := by omega
  have HI : Hid (RI13 Wo g n F F1 kw n (.int .i64 0) Wo) := ⟨0, ps, rfl, Nat.zero_le _, by omega, AR.out, by rw [mx13_zero]; exact ZL.out, Touch.refl _ _⟩
  have AW := AR
  clear b dp dt p0 p1 t0 t1 hbp hbt AR ZL HA0 HZ0
  go_wp2_with fail
  go_loopg [23] n (fun gk s23 wx => RI13 Wo g n F F1 kw gk s23 wx)
  case atStart => exact HI.out
  case round =>
    clear HI
    obtain ⟨j, qz, rfl, hjn, hgk, har, hzl, htw⟩ := hrel
    have AR := hid har
    have ZL := hid hzl
    have TW := hid htw
    have HG := hid hgk
    have TW2 : Hid (Touch (· = g) w wr) := TW1.out.trans htw
    have TY : Hid (Ty 45 Wo wr) := Touch.ty13 htw AW.out
    have DP2 : Hid (Duo wr bp (.bool np) (.slice ap lp cp)) := (htw.block bp DP.out.blk hgp).trans DP.out
    have DT2 : Hid (Duo wr bt (.bool nt) (.slice at0 lt ct)) := (htw.block bt DT.out.blk hgt).trans DT.out
    have ZP2 := hid (ZP.out.ty TY.out (by decide))
    have ZT2 := hid (ZT.out.ty TY.out (by decide))
    clear har hzl htw hgk
    by_cases hlt : j < n
    · have hlt' : (j : Int) < (n : Int) := by omega
      obtain ⟨kE, kD, kA, kZ⟩ := KS.out _ TW2.out
      obtain ⟨nx, ax, lx, cx, x0, x1, -, -, zx⟩ := ZL.out.at AR.out (t := j) (by simp; exact hlt)
      rw [rmap_at hlt] at zx
      have ZX0 : Hid (Zm 0 wr (.agg #[.bool nx, .slice ax lx cx]) (F j) kw) := by
        have e : mx13 F F1 j j = F j := if_neg (by omega)
        rw [e] at zx
        exact zx
      obtain ⟨V1, hV⟩ : ∃ V1, wr.alloc (duo (.bool nx) (.slice ax lx cx)) = V1 := ⟨_, rfl⟩
      obtain ⟨b, sz1⟩ := alo1 wr (duo (.bool nx) (.slice ax lx cx))
      rw [hV] at b sz1
      have PN : Hid (Duo V1 wr.heap.size (.bool nx) (.slice ax lx cx)) := by unfold Hid; rw [← hV]; exact Duo.new wr _ _
      have AR1 := hid (AR.out.step b)
      have ZL1 := hid (ZL.out.now b)
      have ZX := hid (ZX0.out.now b)
      obtain ⟨nn, an, ln, cn, q0, q1, -, -, zn⟩ := (kZ.now b).at (kA.step b) (t := j) (by simp; exact hlt)
      rw [rmap_at hlt] at zn
      have ZN := hid zn
      have TV1 : Hid (Touch (· = g) Wo V1) := TW.out.trans (.ofBelow b)
      have ZP := hid (ZP2.out.now b)
      have ZT := hid (ZT2.out.now b)
      have KE : Hid (Ebx V1 Bs x y lv (.bool nd) (.slice ad ld cd) pv) := Cel.step kE b
      have KD := hid (kD.now b)
      have DP3 := hid (DP2.out.step b)
      have DT3 := hid (DT2.out.step b)
      have s2 := Cel.at KE.out (i := 2) rfl
      have p0 := DP3.out.c0
      have p1 := DP3.out.c1
      have t0 := DT3.out.c0
      have t1 := DT3.out.c1
      have n0 := PN.out.c0
      have n1 := PN.out.c1
      have HMM : Hid (n - (j + 1) < gk) := by unfold Hid; rw [HG.out]; omega
      have hwj := wrapI9 (i := j) (by omega)
      have EV := hid hV
      have HEJ := hid (HE.out j hlt)
      clear zn zx hV b sz1 AR ZL TW HG DP2 DT2 ZP2 ZT2 TY TW2 kE kD kA kZ ZX0
      generalize hP : G c = P at *
      generalize hX : F j = X at *
      generalize hT : F c = T at *
      generalize hN : G j = N0 at *
      have hX' := hid hX
      clear hP hX hT hN
      go_wp2_with fail
      rw [EV.out]
      clear EV x0 x1
      go_cut [55] from 28 to 95 (fun s1 wx => Stay17 V1 X T N0 s1 wx)
      case first =>
        clear hwj p0 p1
        by_cases hx0 : X = 0
        · have HX0 := hid hx0
          clear hx0
          by_cases ht0 : T = 0
          · have HT0 := hid ht0
            clear ht0 q0 q1
            have KB : Hid (∀ w', Below V1.heap.size V1 w' → w'.cell? ⟨Bs, 2, none⟩ = some fnZ17 ∧ w'.cell? ⟨wr.heap.size, 0, none⟩ = some (.bool nx) ∧ w'.cell? ⟨wr.heap.size, 1, none⟩ = some (.slice ax lx cx) ∧ w'.cell? ⟨bt, 0, none⟩ = some (.bool nt) ∧ w'.cell? ⟨bt, 1, none⟩ = some (.slice at0 lt ct)) := fun w' h => ⟨cnow h s2, cnow h n0, cnow h n1, cnow h t0, cnow h t1⟩
            refine wp_region_tail (fun w' => w'.cell? ⟨Bs, 2, none⟩ = some fnZ17 ∧ w'.cell? ⟨wr.heap.size, 0, none⟩ = some (.bool nx) ∧ w'.cell? ⟨wr.heap.size, 1, none⟩ = some (.slice ax lx cx) ∧ w'.cell? ⟨bt, 0, none⟩ = some (.bool nt) ∧ w'.cell? ⟨bt, 1, none⟩ = some (.slice at0 lt ct)) 27 (by kernel_rfl) ?_
            obtain ⟨D61, hD⟩ : ∃ D61, V1.drew = D61 := ⟨_, rfl⟩
            have GB : Hid (Below V1.heap.size V1 D61) := by unfold Hid; rw [← hD]; exact (Below.refl _ _).drew
            rw [hD]
            clear hD
            refine wpAnyT_take (i := 0) (oi := { dst := some 28, op := Op.move (Operand.tmp 0), type := 143, pos := "elimination.go:56", after := #[], guard := none }) (v := (.pointer (some ⟨Bs, 0, none⟩))) rfl (by kernel_rfl) (fun _ _ _ h => h) (Or.inl ⟨by rfl, ?_⟩) (KB.out _ GB.out) ?_
            · intro w hSw
              (try dsimp only at hSw)
              go_simp
            simp only [Act.put, List.setIfInBounds_toArray, List.set_cons_zero, List.set_cons_succ]
            refine wpAnyT_take (i := 1) (oi := { dst := some 29, op := Op.nilCheck (Operand.tmp 28), type := 0, pos := "elimination.go:56", after := #[{ on := 0, ground := Ground.data }], guard := none }) (v := (.pointer (some ⟨Bs, 0, none⟩))) rfl (by kernel_rfl) (fun _ _ _ h => h) (Or.inl ⟨by rfl, ?_⟩) (KB.out _ GB.out) ?_
            · intro w hSw
              (try dsimp only at hSw)
              go_simp
            simp only [Act.put, List.setIfInBounds_toArray, List.set_cons_zero, List.set_cons_succ]
            refine wpAnyT_take (i := 2) (oi := { dst := some 30, op := Op.fieldAddr 69 (Operand.tmp 29) 0, type := 0, pos := "elimination.go:56", after := #[{ on := 1, ground := Ground.data }], guard := none }) (v := (.pointer (some ⟨Bs, 0, none⟩))) rfl (by kernel_rfl) (fun _ _ _ h => h) (Or.inl ⟨by rfl, ?_⟩) (KB.out _ GB.out) ?_
            · intro w hSw
              (try dsimp only at hSw)
              go_simp
            simp only [Act.put, List.setIfInBounds_toArray, List.set_cons_zero, List.set_cons_succ]
            refine wpAnyT_take (i := 3) (oi := { dst := some 31, op := Op.fieldAddr 66 (Operand.tmp 30) 1, type := 0, pos := "elimination.go:56", after := #[{ on := 2, ground := Ground.data }], guard := none }) (v := (.pointer (some ⟨Bs, 2, none⟩))) rfl (by kernel_rfl) (fun _ _ _ h => h) (Or.inl ⟨by rfl, ?_⟩) (KB.out _ GB.out) ?_
            · intro w hSw
              (try dsimp only at hSw)
              go_simp
            simp only [Act.put, List.setIfInBounds_toArray, List.set_cons_zero, List.set_cons_succ]
            refine wpAnyT_take (i := 4) (oi := { dst := some 32, op := Op.load 63 (Operand.tmp 31), type := 63, pos := "elimination.go:56", after := #[{ on := 3, ground := Ground.data }], guard := none }) (v := fnZ17) rfl (by kernel_rfl) (fun _ _ _ h => h) (Or.inl ⟨by rfl, ?_⟩) (KB.out _ GB.out) ?_
            · intro w hSw
              (try dsimp only at hSw)
              go_simp
            simp only [Act.put, List.setIfInBounds_toArray, List.set_cons_zero, List.set_cons_succ]
            refine wpAnyT_take (i := 5) (oi := { dst := some 33, op := Op.load 45 (Operand.tmp 11), type := 45, pos := "elimination.go:56", after := #[], guard := none }) (v := (.agg #[.bool nx, .slice ax lx cx])) rfl (by kernel_rfl) (fun _ _ _ h => h) (Or.inl ⟨by rfl, ?_⟩) (KB.out _ GB.out) ?_
            · intro w hSw
              (try dsimp only at hSw)
              go_simp
            simp only [Act.put, List.setIfInBounds_toArray, List.set_cons_zero, List.set_cons_succ]
            refine wpAnyT_one (i := 6) (o := { dst := some 34, op := Op.call { callee := Callee.value (Operand.tmp 32), args := #[Operand.tmp 33], argTypes := #[45] }, type := 4, pos := "elimination.go:56", after := #[{ on := 4, ground := Ground.data }, { on := 5, ground := Ground.data }], guard := none }) (by kernel_rfl) rfl (fun K hK => ?_)
            go_simp
            go_at_call 93
            refine (isz_yes (ZX.out.now GB.out).zi HX0.out).mono ?_
            rintro e w62 ⟨rfl, b⟩
            have lz62 := (show Below _ _ _ from b).size
            replace GB := hid (below_step GB.out b)
            clear b
            refine hK.out _ _ (fun _ => KB.out _ GB.out) ?_
            clear hK
            refine wpAnyT_take (i := 7) (oi := { dst := some 35, op := Op.move (Operand.tmp 34), type := 4, pos := "elimination.go:56", after := #[{ on := 6, ground := Ground.data }, { on := 6, ground := Ground.chain }], guard := none }) (v := (.bool true)) rfl (by kernel_rfl) (fun _ _ _ h => h) (Or.inl ⟨by rfl, ?_⟩) (KB.out _ GB.out) ?_
            · intro w hSw
              (try dsimp only at hSw)
              go_simp
            simp only [Act.put, List.setIfInBounds_toArray, List.set_cons_zero, List.set_cons_succ]
            refine wpAnyT_take (i := 8) (oi := { dst := some 36, op := Op.move (Operand.tmp 0), type := 143, pos := "elimination.go:56", after := #[{ on := 7, ground := Ground.guard }], guard := some (7, true) }) (v := (.pointer (some ⟨Bs, 0, none⟩))) rfl (by kernel_rfl) (fun _ _ _ h => h) (Or.inl ⟨by rfl, ?_⟩) (KB.out _ GB.out) ?_
            · intro w hSw
              (try dsimp only at hSw)
              go_simp
            simp only [Act.put, List.setIfInBounds_toArray, List.set_cons_zero, List.set_cons_succ]
            refine wpAnyT_take (i := 9) (oi := { dst := some 37, op := Op.nilCheck (Operand.tmp 36), type := 0, pos := "elimination.go:56", after := #[{ on := 8, ground := Ground.data }, { on := 7, ground := Ground.guard }], guard := some (7, true) }) (v := (.pointer (some ⟨Bs, 0, none⟩))) rfl (by kernel_rfl) (fun _ _ _ h => h) (Or.inl ⟨by rfl, ?_⟩) (KB.out _ GB.out) ?_
            · intro w hSw
              (try dsimp only at hSw)
              go_simp
            simp only [Act.put, List.setIfInBounds_toArray, List.set_cons_zero, List.set_cons_succ]
            refine wpAnyT_take (i := 10) (oi := { dst := some 38, op := Op.fieldAddr 69 (Operand.tmp 37) 0, type := 0, pos := "elimination.go:56", after := #[{ on := 9, ground := Ground.data }, { on := 7, ground := Ground.guard }], guard := some (7, true) }) (v := (.pointer (some ⟨Bs, 0, none⟩))) rfl (by kernel_rfl) (fun _ _ _ h => h) (Or.inl ⟨by rfl, ?_⟩) (KB.out _ GB.out) ?_
            · intro w hSw
              (try dsimp only at hSw)
              go_simp
            simp only [Act.put, List.setIfInBounds_toArray, List.set_cons_zero, List.set_cons_succ]
            refine wpAnyT_take (i := 11) (oi := { dst := some 39, op := Op.fieldAddr 66 (Operand.tmp 38) 1, type := 0, pos := "elimination.go:56", after := #[{ on := 10, ground := Ground.data }, { on := 7, ground := Ground.guard }], guard := some (7, true) }) (v := (.pointer (some ⟨Bs, 2, none⟩))) rfl (by kernel_rfl) (fun _ _ _ h => h) (Or.inl ⟨by rfl, ?_⟩) (KB.out _ GB.out) ?_
            · intro w hSw
              (try dsimp only at hSw)
              go_simp
            simp only [Act.put, List.setIfInBounds_toArray, List.set_cons_zero, List.set_cons_succ]
            refine wpAnyT_take (i := 12) (oi := { dst := some 40, op := Op.load 63 (Operand.tmp 39), type := 63, pos := "elimination.go:56", after := #[{ on := 11, ground := Ground.data }, { on := 7, ground := Ground.guard }], guard := some (7, true) }) (v := fnZ17) rfl (by kernel_rfl) (fun _ _ _ h => h) (Or.inl ⟨by rfl, ?_⟩) (KB.out _ GB.out) ?_
            · intro w hSw
              (try dsimp only at hSw)
              go_simp
            simp only [Act.put, List.setIfInBounds_toArray, List.set_cons_zero, List.set_cons_succ]
            refine wpAnyT_take (i := 13) (oi := { dst := some 41, op := Op.load 45 (Operand.tmp 9), type := 45, pos := "elimination.go:56", after := #[{ on := 7, ground := Ground.guard }], guard := some (7, true) }) (v := (.agg #[.bool nt, .slice at0 lt ct])) rfl (by kernel_rfl) (fun _ _ _ h => h) (Or.inl ⟨by rfl, ?_⟩) (KB.out _ GB.out) ?_
            · intro w hSw
              (try dsimp only at hSw)
              go_simp
            simp only [Act.put, List.setIfInBounds_toArray, List.set_cons_zero, List.set_cons_succ]
            refine wpAnyT_one (i := 14) (o := { dst := some 42, op := Op.call { callee := Callee.value (Operand.tmp 40), args := #[Operand.tmp 41], argTypes := #[45] }, type := 4, pos := "elimination.go:56", after := #[{ on := 12, ground := Ground.data }, { on := 13, ground := Ground.data }, { on := 7, ground := Ground.chain }, { on := 7, ground := Ground.guard }], guard := some (7, true) }) (by kernel_rfl) rfl (fun K hK => ?_)
            go_simp
            go_at_call 93
            refine (isz_yes (ZT.out.now GB.out).zi HT0.out).mono ?_
            rintro e w63 ⟨rfl, b⟩
            have lz63 := (show Below _ _ _ from b).size
            replace GB := hid (below_step GB.out b)
            clear b
            refine hK.out _ _ (fun _ => KB.out _ GB.out) ?_
            clear hK
            refine wpAnyT_take (i := 15) (oi := { dst := some 43, op := Op.move (Operand.tmp 42), type := 4, pos := "elimination.go:56", after := #[{ on := 14, ground := Ground.data }, { on := 14, ground := Ground.chain }, { on := 7, ground := Ground.guard }], guard := some (7, true) }) (v := (.bool true)) rfl (by kernel_rfl) (fun _ _ _ h => h) (Or.inl ⟨by rfl, ?_⟩) (KB.out _ GB.out) ?_
            · intro w hSw
              (try dsimp only at hSw)
              go_simp
            simp only [Act.put, List.setIfInBounds_toArray, List.set_cons_zero, List.set_cons_succ]
            refine wpAnyT_take (i := 16) (oi := { dst := some 44, op := Op.move (Operand.tmp 0), type := 143, pos := "elimination.go:56", after := #[{ on := 15, ground := Ground.guard }], guard := some (15, false) }) (v := undef) rfl (by kernel_rfl) (fun _ _ _ h => h) (Or.inr ⟨by rfl, rfl⟩) (KB.out _ GB.out) ?_
            simp only [Act.put, List.setIfInBounds_toArray, List.set_cons_zero, List.set_cons_succ]
            refine wpAnyT_take (i := 17) (oi := { dst := some 45, op := Op.nilCheck (Operand.tmp 44), type := 0, pos := "elimination.go:56", after := #[{ on := 16, ground := Ground.data }, { on := 15, ground := Ground.guard }], guard := some (15, false) }) (v := undef) rfl (by kernel_rfl) (fun _ _ _ h => h) (Or.inr ⟨by rfl, rfl⟩) (KB.out _ GB.out) ?_
            simp only [Act.put, List.setIfInBounds_toArray, List.set_cons_zero, List.set_cons_succ]
            refine wpAnyT_take (i := 18) (oi := { dst := some 46, op := Op.fieldAddr 69 (Operand.tmp 45) 0, type := 0, pos := "elimination.go:56", after := #[{ on := 17, ground := Ground.data }, { on := 15, ground := Ground.guard }], guard := some (15, false) }) (v := undef) rfl (by kernel_rfl) (fun _ _ _ h => h) (Or.inr ⟨by rfl, rfl⟩) (KB.out _ GB.out) ?_
            simp only [Act.put, List.setIfInBounds_toArray, List.set_cons_zero, List.set_cons_succ]
            refine wpAnyT_take (i := 19) (oi := { dst := some 47, op := Op.fieldAddr 66 (Operand.tmp 46) 1, type := 0, pos := "elimination.go:56", after := #[{ on := 18, ground := Ground.data }, { on := 15, ground := Ground.guard }], guard := some (15, false) }) (v := undef) rfl (by kernel_rfl) (fun _ _ _ h => h) (Or.inr ⟨by rfl, rfl⟩) (KB.out _ GB.out) ?_
            simp only [Act.put, List.setIfInBounds_toArray, List.set_cons_zero, List.set_cons_succ]
            refine wpAnyT_take (i := 20) (oi := { dst := some 48, op := Op.load 63 (Operand.tmp 47), type := 63, pos := "elimination.go:56", after := #[{ on := 19, ground := Ground.data }, { on := 15, ground := Ground.guard }], guard := some (15, false) }) (v := undef) rfl (by kernel_rfl) (fun _ _ _ h => h) (Or.inr ⟨by rfl, rfl⟩) (KB.out _ GB.out) ?_
            simp only [Act.put, List.setIfInBounds_toArray, List.set_cons_zero, List.set_cons_succ]
            refine wpAnyT_take (i := 21) (oi := { dst := some 49, op := Op.move (Operand.tmp 2), type := 33, pos := "elimination.go:56", after := #[{ on := 15, ground := Ground.guard }], guard := some (15, false) }) (v := undef) rfl (by kernel_rfl) (fun _ _ _ h => h) (Or.inr ⟨by rfl, rfl⟩) (KB.out _ GB.out) ?_
            simp only [Act.put, List.setIfInBounds_toArray, List.set_cons_zero, List.set_cons_succ]
            refine wpAnyT_take (i := 22) (oi := { dst := some 50, op := Op.move (Operand.tmp 10), type := 3, pos := "elimination.go:56", after := #[{ on := 15, ground := Ground.guard }], guard := some (15, false) }) (v := undef) rfl (by kernel_rfl) (fun _ _ _ h => h) (Or.inr ⟨by rfl, rfl⟩) (KB.out _ GB.out) ?_
            simp only [Act.put, List.setIfInBounds_toArray, List.set_cons_zero, List.set_cons_succ]
            refine wpAnyT_take (i := 23) (oi := { dst := some 51, op := Op.indexAddr 33 (Operand.tmp 49) (Operand.tmp 50), type := 0, pos := "elimination.go:56", after := #[{ on := 21, ground := Ground.data }, { on := 22, ground := Ground.data }, { on := 15, ground := Ground.guard }], guard := some (15, false) }) (v := undef) rfl (by kernel_rfl) (fun _ _ _ h => h) (Or.inr ⟨by rfl, rfl⟩) (KB.out _ GB.out) ?_
            simp only [Act.put, List.setIfInBounds_toArray, List.set_cons_zero, List.set_cons_succ]
            refine wpAnyT_take (i := 24) (oi := { dst := some 52, op := Op.load 45 (Operand.tmp 51), type := 45, pos := "elimination.go:56", after := #[{ on := 23, ground := Ground.data }, { on := 15, ground := Ground.guard }], guard := some (15, false) }) (v := undef) rfl (by kernel_rfl) (fun _ _ _ h => h) (Or.inr ⟨by rfl, rfl⟩) (KB.out _ GB.out) ?_
            simp only [Act.put, List.setIfInBounds_toArray, List.set_cons_zero, List.set_cons_succ]
            refine wpAnyT_take (i := 25) (oi := { dst := some 53, op := Op.call { callee := Callee.value (Operand.tmp 48), args := #[Operand.tmp 52], argTypes := #[45] }, type := 4, pos := "elimination.go:56", after := #[{ on := 20, ground := Ground.data }, { on := 24, ground := Ground.data }, { on := 15, ground := Ground.chain }, { on := 15, ground := Ground.guard }], guard := some (15, false) }) (v := undef) rfl (by kernel_rfl) (fun _ _ _ h => h) (Or.inr ⟨by rfl, rfl⟩) (KB.out _ GB.out) ?_
            simp only [Act.put, List.setIfInBounds_toArray, List.set_cons_zero, List.set_cons_succ]
            refine wpAnyT_take (i := 26) (oi := { dst := some 54, op := Op.pick (Operand.tmp 43) (Operand.const (Value.bool true)) (Operand.tmp 53), type := 4, pos := "elimination.go:56", after := #[{ on := 15, ground := Ground.data }, { on := 25, ground := Ground.data }, { on := 7, ground := Ground.guard }], guard := some (7, true) }) (v := (.bool true)) rfl (by kernel_rfl) (fun _ _ _ h => h) (Or.inl ⟨by rfl, ?_⟩) (KB.out _ GB.out) ?_
            · intro w hSw
              (try dsimp only at hSw)
              go_simp
            simp only [Act.put, List.setIfInBounds_toArray, List.set_cons_zero, List.set_cons_succ]
            refine wpAnyT_one (i := 27) (o := { dst := some 55, op := Op.pick (Operand.tmp 35) (Operand.tmp 54) (Operand.const (Value.bool false)), type := 4, pos := "elimination.go:56", after := #[{ on := 7, ground := Ground.data }, { on := 26, ground := Ground.data }], guard := none }) (by kernel_rfl) rfl (fun K hK => ?_)
            go_simp
            refine hK.out _ _ (fun h => absurd h (by decide)) ?_
            clear hK
            try simp only [Act.put]
            refine wpAnyT_done (by kernel_rfl) ?_ _
            have FN4 : Hid (Stay17 V1 X T N0 (.bool true) w63) := ⟨true, rfl, ⟨fun _ => ⟨HX0.out, .inl HT0.out⟩, fun _ => rfl⟩, GB.out⟩
            clear GB
            go_wp2_with fail
            go_meet
            exact FN4.out
          · have HT0 := hid ht0
            clear ht0
            have KB : Hid (∀ w', Below V1.heap.size V1 w' → w'.cell? ⟨Bs, 2, none⟩ = some fnZ17 ∧ w'.cell? ⟨wr.heap.size, 0, none⟩ = some (.bool nx) ∧ w'.cell? ⟨wr.heap.size, 1, none⟩ = some (.slice ax lx cx) ∧ w'.cell? ⟨bt, 0, none⟩ = some (.bool nt) ∧ w'.cell? ⟨bt, 1, none⟩ = some (.slice at0 lt ct) ∧ w'.cell? ⟨gp, j * 2, none⟩ = some (.bool nn) ∧ w'.cell? ⟨gp, j * 2 + 1, none⟩ = some (.slice an ln cn)) := fun w' h => ⟨cnow h s2, cnow h n0, cnow h n1, cnow h t0, cnow h t1, cnow h q0, cnow h q1⟩
            refine wp_region_tail (fun w' => w'.cell? ⟨Bs, 2, none⟩ = some fnZ17 ∧ w'.cell? ⟨wr.heap.size, 0, none⟩ = some (.bool nx) ∧ w'.cell? ⟨wr.heap.size, 1, none⟩ = some (.slice ax lx cx) ∧ w'.cell? ⟨bt, 0, none⟩ = some (.bool nt) ∧ w'.cell? ⟨bt, 1, none⟩ = some (.slice at0 lt ct) ∧ w'.cell? ⟨gp, j * 2, none⟩ = some (.bool nn) ∧ w'.cell? ⟨gp, j * 2 + 1, none⟩ = some (.slice an ln cn)) 27 (by kernel_rfl) ?_
            obtain ⟨D91, hD⟩ : ∃ D91, V1.drew = D91 := ⟨_, rfl⟩
            have GB : Hid (Below V1.heap.size V1 D91) := by unfold Hid; rw [← hD]; exact (Below.refl _ _).drew
            rw [hD]
            clear hD
            refine wpAnyT_list [(0, (.pointer (some ⟨Bs, 0, none⟩))), (1, (.pointer (some ⟨Bs, 0, none⟩))), (2, (.pointer (some ⟨Bs, 0, none⟩))), (3, (.pointer (some ⟨Bs, 2, none⟩))), (4, fnZ17), (5, (.agg #[.bool nx, .slice ax lx cx]))] 6 ?_ (KB.out _ GB.out) ?_
            · simp only [TakesV, gA9, g09, g19, Act.put, sI9, s09, s19]
              (repeat' (first | exact trivial | refine And.intro (Or.inl ⟨by rfl, ?_⟩) ?_)) <;> (intro w hSw; (try dsimp only at hSw); go_simp)
            simp only [actV, gA9, g09, g19, Act.put, sI9, s09, s19]
            refine wpAnyT_one (i := 6) (o := { dst := some 34, op := Op.call { callee := Callee.value (Operand.tmp 32), args := #[Operand.tmp 33], argTypes := #[45] }, type := 4, pos := "elimination.go:56", after := #[{ on := 4, ground := Ground.data }, { on := 5, ground := Ground.data }], guard := none }) (by kernel_rfl) rfl (fun K hK => ?_)
            go_simp
            go_at_call 93
            refine (isz_yes (ZX.out.now GB.out).zi HX0.out).mono ?_
            rintro e w92 ⟨rfl, b⟩
            have lz92 := (show Below _ _ _ from b).size
            replace GB := hid (below_step GB.out b)
            clear b
            refine hK.out _ _ (fun _ => KB.out _ GB.out) ?_
            clear hK
            refine wpAnyT_list [(7, (.bool true)), (8, (.pointer (some ⟨Bs, 0, none⟩))), (9, (.pointer (some ⟨Bs, 0, none⟩))), (10, (.pointer (some ⟨Bs, 0, none⟩))), (11, (.pointer (some ⟨Bs, 2, none⟩))), (12, fnZ17), (13, (.agg #[.bool nt, .slice at0 lt ct]))] 7 ?_ (KB.out _ GB.out) ?_
            · simp only [TakesV, gA9, g09, g19, Act.put, sI9, s09, s19]
              (repeat' (first | exact trivial | refine And.intro (Or.inl ⟨by rfl, ?_⟩) ?_)) <;> (intro w hSw; (try dsimp only at hSw); go_simp)
            simp only [actV, gA9, g09, g19, Act.put, sI9, s09, s19]
            refine wpAnyT_one (i := 14) (o := { dst := some 42, op := Op.call { callee := Callee.value (Operand.tmp 40), args := #[Operand.tmp 41], argTypes := #[45] }, type := 4, pos := "elimination.go:56", after := #[{ on := 12, ground := Ground.data }, { on := 13, ground := Ground.data }, { on := 7, ground := Ground.chain }, { on := 7, ground := Ground.guard }], guard := some (7, true) }) (by kernel_rfl) rfl (fun K hK => ?_)
            go_simp
            go_at_call 93
            refine (isz_no (ZT.out.now GB.out).zi HT0.out).mono ?_
            rintro e w93 ⟨rfl, b⟩
            have lz93 := (show Below _ _ _ from b).size
            replace GB := hid (below_step GB.out b)
            clear b
            refine hK.out _ _ (fun _ => KB.out _ GB.out) ?_
            clear hK
            refine wpAnyT_list [(15, (.bool false)), (16, (.pointer (some ⟨Bs, 0, none⟩))), (17, (.pointer (some ⟨Bs, 0, none⟩))), (18, (.pointer (some ⟨Bs, 0, none⟩))), (19, (.pointer (some ⟨Bs, 2, none⟩))), (20, fnZ17), (21, (.slice (some ⟨gp, 0, none⟩) n n)), (22, (.int .i64 (j : Int))), (23, (.pointer (some ⟨gp, j * 2, none⟩))), (24, (.agg #[.bool nn, .slice an ln cn]))] 10 ?_ (KB.out _ GB.out) ?_
            · simp only [TakesV, gA9, g09, g19, Act.put, sI9, s09, s19]
              (repeat' (first | exact trivial | refine And.intro (Or.inl ⟨by rfl, ?_⟩) ?_)) <;> (intro w hSw; (try dsimp only at hSw); go_simp)
            simp only [actV, gA9, g09, g19, Act.put, sI9, s09, s19]
            refine wpAnyT_one (i := 25) (o := { dst := some 53, op := Op.call { callee := Callee.value (Operand.tmp 48), args := #[Operand.tmp 52], argTypes := #[45] }, type := 4, pos := "elimination.go:56", after := #[{ on := 20, ground := Ground.data }, { on := 24, ground := Ground.data }, { on := 15, ground := Ground.chain }, { on := 15, ground := Ground.guard }], guard := some (15, false) }) (by kernel_rfl) rfl (fun K hK => ?_)
            go_simp
            go_at_call 93
            refine (isz_b (ZN.out.now GB.out).zi).mono ?_
            rintro e w94 ⟨bq, rfl, hbq, b⟩
            have lz94 := (show Below _ _ _ from b).size
            replace GB := hid (below_step GB.out b)
            have HBQ := hid hbq
            clear hbq
            clear b
            refine hK.out _ _ (fun _ => KB.out _ GB.out) ?_
            clear hK
            refine wpAnyT_list [(26, (.bool bq))] 1 ?_ (KB.out _ GB.out) ?_
            · simp only [TakesV, gA9, g09, g19, Act.put, sI9, s09, s19]
              (repeat' (first | exact trivial | refine And.intro (Or.inl ⟨by rfl, ?_⟩) ?_)) <;> (intro w hSw; (try dsimp only at hSw); go_simp)
            simp only [actV, gA9, g09, g19, Act.put, sI9, s09, s19]
            refine wpAnyT_one (i := 27) (o := { dst := some 55, op := Op.pick (Operand.tmp 35) (Operand.tmp 54) (Operand.const (Value.bool false)), type := 4, pos := "elimination.go:56", after := #[{ on := 7, ground := Ground.data }, { on := 26, ground := Ground.data }], guard := none }) (by kernel_rfl) rfl (fun K hK => ?_)
            go_simp
            refine hK.out _ _ (fun h => absurd h (by decide)) ?_
            clear hK
            try simp only [Act.put]
            refine wpAnyT_done (by kernel_rfl) ?_ _
            have FN4 : Hid (Stay17 V1 X T N0 (.bool bq) w94) := ⟨bq, rfl, ⟨fun q => ⟨HX0.out, .inr (HBQ.out.1 q)⟩, fun q => HBQ.out.2 (q.2.resolve_left HT0.out)⟩, GB.out⟩
            clear GB
            go_wp2_with fail
            go_meet
            exact FN4.out
        · have HX0 := hid hx0
          clear hx0 t0 t1 q0 q1
          skip
          · skip
            have KB : Hid (∀ w', Below V1.heap.size V1 w' → w'.cell? ⟨Bs, 2, none⟩ = some fnZ17 ∧ w'.cell? ⟨wr.heap.size, 0, none⟩ = some (.bool nx) ∧ w'.cell? ⟨wr.heap.size, 1, none⟩ = some (.slice ax lx cx)) := fun w' h => ⟨cnow h s2, cnow h n0, cnow h n1⟩
            refine wp_region_tail (fun w' => w'.cell? ⟨Bs, 2, none⟩ = some fnZ17 ∧ w'.cell? ⟨wr.heap.size, 0, none⟩ = some (.bool nx) ∧ w'.cell? ⟨wr.heap.size, 1, none⟩ = some (.slice ax lx cx)) 27 (by kernel_rfl) ?_
            obtain ⟨D31, hD⟩ : ∃ D31, V1.drew = D31 := ⟨_, rfl⟩
            have GB : Hid (Below V1.heap.size V1 D31) := by unfold Hid; rw [← hD]; exact (Below.refl _ _).drew
            rw [hD]
            clear hD
            refine wpAnyT_take (i := 0) (oi := { dst := some 28, op := Op.move (Operand.tmp 0), type := 143, pos := "elimination.go:56", after := #[], guard := none }) (v := (.pointer (some ⟨Bs, 0, none⟩))) rfl (by kernel_rfl) (fun _ _ _ h => h) (Or.inl ⟨by rfl, ?_⟩) (KB.out _ GB.out) ?_
            · intro w hSw
              (try dsimp only at hSw)
              go_simp
            simp only [Act.put, List.setIfInBounds_toArray, List.set_cons_zero, List.set_cons_succ]
            refine wpAnyT_take (i := 1) (oi := { dst := some 29, op := Op.nilCheck (Operand.tmp 28), type := 0, pos := "elimination.go:56", after := #[{ on := 0, ground := Ground.data }], guard := none }) (v := (.pointer (some ⟨Bs, 0, none⟩))) rfl (by kernel_rfl) (fun _ _ _ h => h) (Or.inl ⟨by rfl, ?_⟩) (KB.out _ GB.out) ?_
            · intro w hSw
              (try dsimp only at hSw)
              go_simp
            simp only [Act.put, List.setIfInBounds_toArray, List.set_cons_zero, List.set_cons_succ]
            refine wpAnyT_take (i := 2) (oi := { dst := some 30, op := Op.fieldAddr 69 (Operand.tmp 29) 0, type := 0, pos := "elimination.go:56", after := #[{ on := 1, ground := Ground.data }], guard := none }) (v := (.pointer (some ⟨Bs, 0, none⟩))) rfl (by kernel_rfl) (fun _ _ _ h => h) (Or.inl ⟨by rfl, ?_⟩) (KB.out _ GB.out) ?_
            · intro w hSw
              (try dsimp only at hSw)
              go_simp
            simp only [Act.put, List.setIfInBounds_toArray, List.set_cons_zero, List.set_cons_succ]
            refine wpAnyT_take (i := 3) (oi := { dst := some 31, op := Op.fieldAddr 66 (Operand.tmp 30) 1, type := 0, pos := "elimination.go:56", after := #[{ on := 2, ground := Ground.data }], guard := none }) (v := (.pointer (some ⟨Bs, 2, none⟩))) rfl (by kernel_rfl) (fun _ _ _ h => h) (Or.inl ⟨by rfl, ?_⟩) (KB.out _ GB.out) ?_
            · intro w hSw
              (try dsimp only at hSw)
              go_simp
            simp only [Act.put, List.setIfInBounds_toArray, List.set_cons_zero, List.set_cons_succ]
            refine wpAnyT_take (i := 4) (oi := { dst := some 32, op := Op.load 63 (Operand.tmp 31), type := 63, pos := "elimination.go:56", after := #[{ on := 3, ground := Ground.data }], guard := none }) (v := fnZ17) rfl (by kernel_rfl) (fun _ _ _ h => h) (Or.inl ⟨by rfl, ?_⟩) (KB.out _ GB.out) ?_
            · intro w hSw
              (try dsimp only at hSw)
              go_simp
            simp only [Act.put, List.setIfInBounds_toArray, List.set_cons_zero, List.set_cons_succ]
            refine wpAnyT_take (i := 5) (oi := { dst := some 33, op := Op.load 45 (Operand.tmp 11), type := 45, pos := "elimination.go:56", after := #[], guard := none }) (v := (.agg #[.bool nx, .slice ax lx cx])) rfl (by kernel_rfl) (fun _ _ _ h => h) (Or.inl ⟨by rfl, ?_⟩) (KB.out _ GB.out) ?_
            · intro w hSw
              (try dsimp only at hSw)
              go_simp
            simp only [Act.put, List.setIfInBounds_toArray, List.set_cons_zero, List.set_cons_succ]
            refine wpAnyT_one (i := 6) (o := { dst := some 34, op := Op.call { callee := Callee.value (Operand.tmp 32), args := #[Operand.tmp 33], argTypes := #[45] }, type := 4, pos := "elimination.go:56", after := #[{ on := 4, ground := Ground.data }, { on := 5, ground := Ground.data }], guard := none }) (by kernel_rfl) rfl (fun K hK => ?_)
            go_simp
            go_at_call 93
            refine (isz_no (ZX.out.now GB.out).zi HX0.out).mono ?_
            rintro e w32 ⟨rfl, b⟩
            have lz32 := (show Below _ _ _ from b).size
            replace GB := hid (below_step GB.out b)
            clear b
            refine hK.out _ _ (fun _ => KB.out _ GB.out) ?_
            clear hK
            refine wpAnyT_take (i := 7) (oi := { dst := some 35, op := Op.move (Operand.tmp 34), type := 4, pos := "elimination.go:56", after := #[{ on := 6, ground := Ground.data }, { on := 6, ground := Ground.chain }], guard := none }) (v := (.bool false)) rfl (by kernel_rfl) (fun _ _ _ h => h) (Or.inl ⟨by rfl, ?_⟩) (KB.out _ GB.out) ?_
            · intro w hSw
              (try dsimp only at hSw)
              go_simp
            simp only [Act.put, List.setIfInBounds_toArray, List.set_cons_zero, List.set_cons_succ]
            refine wpAnyT_take (i := 8) (oi := { dst := some 36, op := Op.move (Operand.tmp 0), type := 143, pos := "elimination.go:56", after := #[{ on := 7, ground := Ground.guard }], guard := some (7, true) }) (v := undef) rfl (by kernel_rfl) (fun _ _ _ h => h) (Or.inr ⟨by rfl, rfl⟩) (KB.out _ GB.out) ?_
            simp only [Act.put, List.setIfInBounds_toArray, List.set_cons_zero, List.set_cons_succ]
            refine wpAnyT_take (i := 9) (oi := { dst := some 37, op := Op.nilCheck (Operand.tmp 36), type := 0, pos := "elimination.go:56", after := #[{ on := 8, ground := Ground.data }, { on := 7, ground := Ground.guard }], guard := some (7, true) }) (v := undef) rfl (by kernel_rfl) (fun _ _ _ h => h) (Or.inr ⟨by rfl, rfl⟩) (KB.out _ GB.out) ?_
            simp only [Act.put, List.setIfInBounds_toArray, List.set_cons_zero, List.set_cons_succ]
            refine wpAnyT_take (i := 10) (oi := { dst := some 38, op := Op.fieldAddr 69 (Operand.tmp 37) 0, type := 0, pos := "elimination.go:56", after := #[{ on := 9, ground := Ground.data }, { on := 7, ground := Ground.guard }], guard := some (7, true) }) (v := undef) rfl (by kernel_rfl) (fun _ _ _ h => h) (Or.inr ⟨by rfl, rfl⟩) (KB.out _ GB.out) ?_
            simp only [Act.put, List.setIfInBounds_toArray, List.set_cons_zero, List.set_cons_succ]
            refine wpAnyT_take (i := 11) (oi := { dst := some 39, op := Op.fieldAddr 66 (Operand.tmp 38) 1, type := 0, pos := "elimination.go:56", after := #[{ on := 10, ground := Ground.data }, { on := 7, ground := Ground.guard }], guard := some (7, true) }) (v := undef) rfl (by kernel_rfl) (fun _ _ _ h => h) (Or.inr ⟨by rfl, rfl⟩) (KB.out _ GB.out) ?_
            simp only [Act.put, List.setIfInBounds_toArray, List.set_cons_zero, List.set_cons_succ]
            refine wpAnyT_take (i := 12) (oi := { dst := some 40, op := Op.load 63 (Operand.tmp 39), type := 63, pos := "elimination.go:56", after := #[{ on := 11, ground := Ground.data }, { on := 7, ground := Ground.guard }], guard := some (7, true) }) (v := undef) rfl (by kernel_rfl) (fun _ _ _ h => h) (Or.inr ⟨by rfl, rfl⟩) (KB.out _ GB.out) ?_
            simp only [Act.put, List.setIfInBounds_toArray, List.set_cons_zero, List.set_cons_succ]
            refine wpAnyT_take (i := 13) (oi := { dst := some 41, op := Op.load 45 (Operand.tmp 9), type := 45, pos := "elimination.go:56", after := #[{ on := 7, ground := Ground.guard }], guard := some (7, true) }) (v := undef) rfl (by kernel_rfl) (fun _ _ _ h => h) (Or.inr ⟨by rfl, rfl⟩) (KB.out _ GB.out) ?_
            simp only [Act.put, List.setIfInBounds_toArray, List.set_cons_zero, List.set_cons_succ]
            refine wpAnyT_take (i := 14) (oi := { dst := some 42, op := Op.call { callee := Callee.value (Operand.tmp 40), args := #[Operand.tmp 41], argTypes := #[45] }, type := 4, pos := "elimination.go:56", after := #[{ on := 12, ground := Ground.data }, { on := 13, ground := Ground.data }, { on := 7, ground := Ground.chain }, { on := 7, ground := Ground.guard }], guard := some (7, true) }) (v := undef) rfl (by kernel_rfl) (fun _ _ _ h => h) (Or.inr ⟨by rfl, rfl⟩) (KB.out _ GB.out) ?_
            simp only [Act.put, List.setIfInBounds_toArray, List.set_cons_zero, List.set_cons_succ]
            refine wpAnyT_take (i := 15) (oi := { dst := some 43, op := Op.move (Operand.tmp 42), type := 4, pos := "elimination.go:56", after := #[{ on := 14, ground := Ground.data }, { on := 14, ground := Ground.chain }, { on := 7, ground := Ground.guard }], guard := some (7, true) }) (v := undef) rfl (by kernel_rfl) (fun _ _ _ h => h) (Or.inr ⟨by rfl, rfl⟩) (KB.out _ GB.out) ?_
            simp only [Act.put, List.setIfInBounds_toArray, List.set_cons_zero, List.set_cons_succ]
            refine wpAnyT_take (i := 16) (oi := { dst := some 44, op := Op.move (Operand.tmp 0), type := 143, pos := "elimination.go:56", after := #[{ on := 15, ground := Ground.guard }], guard := some (15, false) }) (v := undef) rfl (by kernel_rfl) (fun _ _ _ h => h) (Or.inr ⟨by rfl, rfl⟩) (KB.out _ GB.out) ?_
            simp only [Act.put, List.setIfInBounds_toArray, List.set_cons_zero, List.set_cons_succ]
            refine wpAnyT_take (i := 17) (oi := { dst := some 45, op := Op.nilCheck (Operand.tmp 44), type := 0, pos := "elimination.go:56", after := #[{ on := 16, ground := Ground.data }, { on := 15, ground := Ground.guard }], guard := some (15, false) }) (v := undef) rfl (by kernel_rfl) (fun _ _ _ h => h) (Or.inr ⟨by rfl, rfl⟩) (KB.out _ GB.out) ?_
            simp only [Act.put, List.setIfInBounds_toArray, List.set_cons_zero, List.set_cons_succ]
            refine wpAnyT_take (i := 18) (oi := { dst := some 46, op := Op.fieldAddr 69 (Operand.tmp 45) 0, type := 0, pos := "elimination.go:56", after := #[{ on := 17, ground := Ground.data }, { on := 15, ground := Ground.guard }], guard := some (15, false) }) (v := undef) rfl (by kernel_rfl) (fun _ _ _ h => h) (Or.inr ⟨by rfl, rfl⟩) (KB.out _ GB.out) ?_
            simp only [Act.put, List.setIfInBounds_toArray, List.set_cons_zero, List.set_cons_succ]
            refine wpAnyT_take (i := 19) (oi := { dst := some 47, op := Op.fieldAddr 66 (Operand.tmp 46) 1, type := 0, pos := "elimination.go:56", after := #[{ on := 18, ground := Ground.data }, { on := 15, ground := Ground.guard }], guard := some (15, false) }) (v := undef) rfl (by kernel_rfl) (fun _ _ _ h => h) (Or.inr ⟨by rfl, rfl⟩) (KB.out _ GB.out) ?_
            simp only [Act.put, List.setIfInBounds_toArray, List.set_cons_zero, List.set_cons_succ]
            refine wpAnyT_take (i := 20) (oi := { dst := some 48, op := Op.load 63 (Operand.tmp 47), type := 63, pos := "elimination.go:56", after := #[{ on := 19, ground := Ground.data }, { on := 15, ground := Ground.guard }], guard := some (15, false) }) (v := undef) rfl (by kernel_rfl) (fun _ _ _ h => h) (Or.inr ⟨by rfl, rfl⟩) (KB.out _ GB.out) ?_
            simp only [Act.put, List.setIfInBounds_toArray, List.set_cons_zero, List.set_cons_succ]
            refine wpAnyT_take (i := 21) (oi := { dst := some 49, op := Op.move (Operand.tmp 2), type := 33, pos := "elimination.go:56", after := #[{ on := 15, ground := Ground.guard }], guard := some (15, false) }) (v := undef) rfl (by kernel_rfl) (fun _ _ _ h => h) (Or.inr ⟨by rfl, rfl⟩) (KB.out _ GB.out) ?_
            simp only [Act.put, List.setIfInBounds_toArray, List.set_cons_zero, List.set_cons_succ]
            refine wpAnyT_take (i := 22) (oi := { dst := some 50, op := Op.move (Operand.tmp 10), type := 3, pos := "elimination.go:56", after := #[{ on := 15, ground := Ground.guard }], guard := some (15, false) }) (v := undef) rfl (by kernel_rfl) (fun _ _ _ h => h) (Or.inr ⟨by rfl, rfl⟩) (KB.out _ GB.out) ?_
            simp only [Act.put, List.setIfInBounds_toArray, List.set_cons_zero, List.set_cons_succ]
            refine wpAnyT_take (i := 23) (oi := { dst := some 51, op := Op.indexAddr 33 (Operand.tmp 49) (Operand.tmp 50), type := 0, pos := "elimination.go:56", after := #[{ on := 21, ground := Ground.data }, { on := 22, ground := Ground.data }, { on := 15, ground := Ground.guard }], guard := some (15, false) }) (v := undef) rfl (by kernel_rfl) (fun _ _ _ h => h) (Or.inr ⟨by rfl, rfl⟩) (KB.out _ GB.out) ?_
            simp only [Act.put, List.setIfInBounds_toArray, List.set_cons_zero, List.set_cons_succ]
            refine wpAnyT_take (i := 24) (oi := { dst := some 52, op := Op.load 45 (Operand.tmp 51), type := 45, pos := "elimination.go:56", after := #[{ on := 23, ground := Ground.data }, { on := 15, ground := Ground.guard }], guard := some (15, false) }) (v := undef) rfl (by kernel_rfl) (fun _ _ _ h => h) (Or.inr ⟨by rfl, rfl⟩) (KB.out _ GB.out) ?_
            simp only [Act.put, List.setIfInBounds_toArray, List.set_cons_zero, List.set_cons_succ]
            refine wpAnyT_take (i := 25) (oi := { dst := some 53, op := Op.call { callee := Callee.value (Operand.tmp 48), args := #[Operand.tmp 52], argTypes := #[45] }, type := 4, pos := "elimination.go:56", after := #[{ on := 20, ground := Ground.data }, { on := 24, ground := Ground.data }, { on := 15, ground := Ground.chain }, { on := 15, ground := Ground.guard }], guard := some (15, false) }) (v := undef) rfl (by kernel_rfl) (fun _ _ _ h => h) (Or.inr ⟨by rfl, rfl⟩) (KB.out _ GB.out) ?_
            simp only [Act.put, List.setIfInBounds_toArray, List.set_cons_zero, List.set_cons_succ]
            refine wpAnyT_take (i := 26) (oi := { dst := some 54, op := Op.pick (Operand.tmp 43) (Operand.const (Value.bool true)) (Operand.tmp 53), type := 4, pos := "elimination.go:56", after := #[{ on := 15, ground := Ground.data }, { on := 25, ground := Ground.data }, { on := 7, ground := Ground.guard }], guard := some (7, true) }) (v := undef) rfl (by kernel_rfl) (fun _ _ _ h => h) (Or.inr ⟨by rfl, rfl⟩) (KB.out _ GB.out) ?_
            simp only [Act.put, List.setIfInBounds_toArray, List.set_cons_zero, List.set_cons_succ]
            refine wpAnyT_one (i := 27) (o := { dst := some 55, op := Op.pick (Operand.tmp 35) (Operand.tmp 54) (Operand.const (Value.bool false)), type := 4, pos := "elimination.go:56", after := #[{ on := 7, ground := Ground.data }, { on := 26, ground := Ground.data }], guard := none }) (by kernel_rfl) rfl (fun K hK => ?_)
            go_simp
            refine hK.out _ _ (fun h => absurd h (by decide)) ?_
            clear hK
            try simp only [Act.put]
            refine wpAnyT_done (by kernel_rfl) ?_ _
            have FN4 : Hid (Stay17 V1 X T N0 (.bool false) w32) := ⟨false, rfl, ⟨fun q => (Bool.false_ne_true q).elim, fun q => absurd q.1 HX0.out⟩, GB.out⟩
            clear GB
            go_wp2_with fail
            go_meet
            exact FN4.out
      case rest =>
      rename World => Wq
      obtain ⟨bo, rfl, hbo, b⟩ := hcut
      have HBO := hid hbo
      clear hbo
      replace AR1 := hid (AR1.out.step b)
      replace ZL1 := hid (ZL1.out.now b)
      replace TV1 : Hid (Touch (· = g) Wo Wq) := TV1.out.trans (.ofBelow b)
      cases bo with
      | true =>
        have HN1 : Hid (RI13 Wo g n F F1 kw (n - (j + 1)) (.int .i64 ((j + 1 : Nat) : Int)) Wq) := by
          refine ⟨j + 1, _, rfl, by omega, rfl, AR1.out, ?_, TV1.out⟩
          have hs := HBO.out.1 rfl
          have e : F1 j = F j := by
            have h := HEJ.out
            rw [hX'.out, hs.1]
            rw [hs.1] at h
            have h2 : T * N0 = 0 := by rcases hs.2 with q | q <;> rw [q] <;> simp
            rw [h2] at h
            have h3 : d * F1 j = 0 := by rw [← h]; simp
            rcases Int.mul_eq_zero.1 h3 with h | h
            · exact absurd h HD0.out
            · exact h
          rw [← mx13_same e]
          exact ZL1.out
        clear HBO AR1 ZL1 TV1 b PN ZX ZN ZP ZT KE KD DP3 DT3 s2 p0 p1 t0 t1 n0 n1 HEJ hX' q0 q1
        go_wp2_with fail
        go_roundg (n - (j + 1))
        case rel => exact HN1.out
        case measure => exact HMM.out
      | false =>
        replace ZX := hid (ZX.out.now b)
        replace ZN := hid (ZN.out.now b)
        replace ZP := hid (ZP.out.now b)
        replace ZT := hid (ZT.out.now b)
        replace KE : Hid (Ebx Wq Bs x y lv (.bool nd) (.slice ad ld cd) pv) := Cel.step KE.out b
        replace KD := hid (KD.out.now b)
        replace DP3 := hid (DP3.out.step b)
        replace DT3 := hid (DT3.out.step b)
        replace PN := hid (PN.out.step b)
        replace q0 := cnow b q0
        replace q1 := cnow b q1
        have s3 := Cel.at KE.out (i := 3) rfl
        have s4 := Cel.at KE.out (i := 4) rfl
        replace p0 := DP3.out.c0
        replace p1 := DP3.out.c1
        replace t0 := DT3.out.c0
        replace t1 := DT3.out.c1
        replace n0 := PN.out.c0
        replace n1 := PN.out.c1
        clear b s2 HBO
        go_wp2_with fail
        go_cut [12] from 56 to 95 (fun s1 wx => MetX Wq wx s1 (P * X - T * N0) (kw + kw + 1))
        case first =>
          skip
          · skip
            have KB : Hid (∀ w', Below Wq.heap.size Wq w' → w'.cell? ⟨Bs, 3, none⟩ = some fnM17 ∧ w'.cell? ⟨Bs, 4, none⟩ = some fnS17 ∧ w'.cell? ⟨bp, 0, none⟩ = some (.bool np) ∧ w'.cell? ⟨bp, 1, none⟩ = some (.slice ap lp cp) ∧ w'.cell? ⟨bt, 0, none⟩ = some (.bool nt) ∧ w'.cell? ⟨bt, 1, none⟩ = some (.slice at0 lt ct) ∧ w'.cell? ⟨wr.heap.size, 0, none⟩ = some (.bool nx) ∧ w'.cell? ⟨wr.heap.size, 1, none⟩ = some (.slice ax lx cx) ∧ w'.cell? ⟨gp, j * 2, none⟩ = some (.bool nn) ∧ w'.cell? ⟨gp, j * 2 + 1, none⟩ = some (.slice an ln cn)) := fun w' h => ⟨cnow h s3, cnow h s4, cnow h p0, cnow h p1, cnow h t0, cnow h t1, cnow h n0, cnow h n1, cnow h q0, cnow h q1⟩
            refine wp_region_tail (fun w' => w'.cell? ⟨Bs, 3, none⟩ = some fnM17 ∧ w'.cell? ⟨Bs, 4, none⟩ = some fnS17 ∧ w'.cell? ⟨bp, 0, none⟩ = some (.bool np) ∧ w'.cell? ⟨bp, 1, none⟩ = some (.slice ap lp cp) ∧ w'.cell? ⟨bt, 0, none⟩ = some (.bool nt) ∧ w'.cell? ⟨bt, 1, none⟩ = some (.slice at0 lt ct) ∧ w'.cell? ⟨wr.heap.size, 0, none⟩ = some (.bool nx) ∧ w'.cell? ⟨wr.heap.size, 1, none⟩ = some (.slice ax lx cx) ∧ w'.cell? ⟨gp, j * 2, none⟩ = some (.bool nn) ∧ w'.cell? ⟨gp, j * 2 + 1, none⟩ = some (.slice an ln cn)) 26 (by kernel_rfl) ?_
            obtain ⟨D131, hD⟩ : ∃ D131, Wq.drew = D131 := ⟨_, rfl⟩
            have GB : Hid (Below Wq.heap.size Wq D131) := by unfold Hid; rw [← hD]; exact (Below.refl _ _).drew
            rw [hD]
            clear hD
            have GZ : Hid (Wq.heap.size ≤ D131.heap.size) := GB.out.size
            refine wpAnyT_list [(0, (.pointer (some ⟨Bs, 0, none⟩))), (1, (.pointer (some ⟨Bs, 0, none⟩))), (2, (.pointer (some ⟨Bs, 0, none⟩))), (3, (.pointer (some ⟨Bs, 4, none⟩))), (4, fnS17), (5, (.pointer (some ⟨Bs, 0, none⟩))), (6, (.pointer (some ⟨Bs, 0, none⟩))), (7, (.pointer (some ⟨Bs, 0, none⟩))), (8, (.pointer (some ⟨Bs, 3, none⟩))), (9, fnM17), (10, (.agg #[.bool np, .slice ap lp cp])), (11, (.agg #[.bool nx, .slice ax lx cx])), (13, (.pointer (some ⟨Bs, 0, none⟩))), (14, (.pointer (some ⟨Bs, 0, none⟩))), (15, (.pointer (some ⟨Bs, 0, none⟩))), (16, (.pointer (some ⟨Bs, 3, none⟩))), (17, fnM17), (18, (.agg #[.bool nt, .slice at0 lt ct])), (19, (.slice (some ⟨gp, 0, none⟩) n n)), (20, (.int .i64 (j : Int))), (21, (.pointer (some ⟨gp, j * 2, none⟩))), (22, (.agg #[.bool nn, .slice an ln cn]))] 22 ?_ (KB.out _ GB.out) ?_
            · simp only [TakesV, gA9, g09, g19, Act.put, sI9, s09, s19]
              (repeat' (first | exact trivial | refine And.intro (Or.inl ⟨by rfl, ?_⟩) ?_)) <;> (intro w hSw; (try dsimp only at hSw); go_simp)
            simp only [actV, gA9, g09, g19, Act.put, sI9, s09, s19]
            refine wpAnyT_two (i := 12) (j := 25) (oi := { dst := some 68, op := Op.call { callee := Callee.value (Operand.tmp 65), args := #[Operand.tmp 66, Operand.tmp 67], argTypes := #[45, 45] }, type := 45, pos := "elimination.go:59", after := #[{ on := 9, ground := Ground.data }, { on := 10, ground := Ground.data }, { on := 11, ground := Ground.data }], guard := none }) (oj := { dst := some 12, op := Op.alloc 45, type := 0, pos := "elimination.go:59", after := #[], guard := none }) (by kernel_rfl) rfl rfl (fun K hK => ?_) (fun K hK => ?_)
            · skip
              replace GZ : Hid (Wq.heap.size ≤ D131.heap.size) := GB.out.size
              go_simp
              go_at_call 53
              refine (mul_z (ZP.out.now GB.out).zi (ZX.out.now GB.out).zi (by have := HKW.out; omega)).mono ?_
              rintro e w132 ⟨r1, rfl, m1, b⟩
              have lz132 := (show Below _ _ _ from b).size
              replace GB := hid (below_step GB.out b)
              have M1 := hid (m1.mono (Nat.zero_le _))
              clear m1
              clear b
              refine hK.out _ _ (fun _ => KB.out _ GB.out) ?_
              clear hK
              refine wpAnyT_two (i := 23) (j := 25) (oi := { dst := some 79, op := Op.call { callee := Callee.value (Operand.tmp 73), args := #[Operand.tmp 74, Operand.tmp 78], argTypes := #[45, 45] }, type := 45, pos := "elimination.go:59", after := #[{ on := 17, ground := Ground.data }, { on := 18, ground := Ground.data }, { on := 22, ground := Ground.data }, { on := 12, ground := Ground.chain }], guard := none }) (oj := { dst := some 12, op := Op.alloc 45, type := 0, pos := "elimination.go:59", after := #[], guard := none }) (by kernel_rfl) rfl rfl (fun K hK => ?_) (fun K hK => ?_)
              · skip
                replace GZ : Hid (Wq.heap.size ≤ w132.heap.size) := GB.out.size
                go_simp
                go_at_call 53
                refine (mul_z (ZT.out.now GB.out).zi (ZN.out.now GB.out).zi (by have := HKW.out; omega)).mono ?_
                rintro e w133 ⟨r2, rfl, m1, b⟩
                have lz133 := (show Below _ _ _ from b).size
                replace GB := hid (below_step GB.out b)
                have M2 := hid (m1.mono (Nat.zero_le _))
                clear m1
                replace M1 := hid (M1.out.now b)
                clear b
                refine hK.out _ _ (fun _ => KB.out _ GB.out) ?_
                clear hK
                refine wpAnyT_two (i := 24) (j := 25) (oi := { dst := some 80, op := Op.call { callee := Callee.value (Operand.tmp 60), args := #[Operand.tmp 68, Operand.tmp 79], argTypes := #[45, 45] }, type := 45, pos := "elimination.go:59", after := #[{ on := 4, ground := Ground.data }, { on := 12, ground := Ground.data }, { on := 23, ground := Ground.data }, { on := 23, ground := Ground.chain }], guard := none }) (oj := { dst := some 12, op := Op.alloc 45, type := 0, pos := "elimination.go:59", after := #[], guard := none }) (by kernel_rfl) rfl rfl (fun K hK => ?_) (fun K hK => ?_)
                · skip
                  replace GZ : Hid (Wq.heap.size ≤ w133.heap.size) := GB.out.size
                  go_simp
                  go_at_call 94
                  refine (sub_z M1.out.zi M2.out.zi (by have := HKW.out; omega) (by have := HKW.out; omega)).mono ?_
                  rintro e w134 ⟨r3, rfl, m1, b⟩
                  have lz134 := (show Below _ _ _ from b).size
                  replace GB := hid (below_step GB.out b)
                  have M3 := hid (m1.mono (Nat.zero_le _))
                  clear m1
                  obtain ⟨nr, xr, ar, cr, rfl⟩ := M3.out.parts
                  clear M1 M2
                  clear b
                  refine hK.out _ _ (fun _ => KB.out _ GB.out) ?_
                  clear hK
                  refine wpAnyT_one (i := 25) (o := { dst := some 12, op := Op.alloc 45, type := 0, pos := "elimination.go:59", after := #[], guard := none }) (by kernel_rfl) rfl (fun K hK => ?_)
                  replace GZ : Hid (Wq.heap.size ≤ w134.heap.size) := GB.out.size
                  go_simp
                  obtain ⟨V135, hW⟩ : ∃ V135, w134.alloc zbox = V135 := ⟨_, rfl⟩
                  obtain ⟨b, sz135⟩ := alo1 w134 zbox
                  rw [hW] at b sz135
                  replace GB := hid (below_step GB.out b)
                  have DX : Hid (Duo V135 w134.heap.size (.bool false) (.slice none 0 0)) := by unfold Hid; rw [← hW]; exact Duo.new w134 _ _
                  have SX := hid (show Wq.heap.size ≤ w134.heap.size from GZ.out)
                  clear sz135
                  replace M3 := hid (M3.out.now b)
                  rw [hW]
                  clear hW b
                  refine hK.out _ _ (fun _ => KB.out _ GB.out) ?_
                  clear hK
                  try simp only [Act.put]
                  refine wpAnyT_one (i := 26) (o := { dst := none, op := Op.store 45 (Operand.tmp 12) (Operand.tmp 80), type := 0, pos := "elimination.go:59", after := #[{ on := 25, ground := Ground.data }, { on := 24, ground := Ground.data }, { on := 24, ground := Ground.chain }, { on := 0, ground := Ground.phase }, { on := 1, ground := Ground.phase }, { on := 2, ground := Ground.phase }, { on := 3, ground := Ground.phase }, { on := 4, ground := Ground.phase }, { on := 5, ground := Ground.phase }, { on := 6, ground := Ground.phase }, { on := 7, ground := Ground.phase }, { on := 8, ground := Ground.phase }, { on := 9, ground := Ground.phase }, { on := 10, ground := Ground.phase }, { on := 11, ground := Ground.phase }, { on := 12, ground := Ground.phase }, { on := 13, ground := Ground.phase }, { on := 14, ground := Ground.phase }, { on := 15, ground := Ground.phase }, { on := 16, ground := Ground.phase }, { on := 17, ground := Ground.phase }, { on := 18, ground := Ground.phase }, { on := 19, ground := Ground.phase }, { on := 20, ground := Ground.phase }, { on := 21, ground := Ground.phase }, { on := 22, ground := Ground.phase }, { on := 23, ground := Ground.phase }, { on := 24, ground := Ground.phase }, { on := 25, ground := Ground.phase }], guard := none }) (by kernel_rfl) rfl (fun K hK => ?_)
                  have e0 := DX.out.c0
                  have e1 := DX.out.c1
                  have e2 := DX.out.fz 0
                  have e3 := DX.out.fz 1
                  go_simp
                  clear e0 e1 e2 e3
                  obtain ⟨V136, hW⟩ : ∃ V136, ((V135.setCell ⟨w134.heap.size, 0, none⟩ (.bool nr)).setCell ⟨w134.heap.size, 1, none⟩ (.slice ar xr.length cr)) = V136 := ⟨_, rfl⟩
                  have MB : Hid (MetX Wq V136 (.pointer (some ⟨w134.heap.size, 0, none⟩)) (P * X - T * N0) (kw + kw + 1)) := by
                    unfold Hid; rw [← hW]
                    exact metb0 DX.out (M3.out.more (by omega)) GB.out SX.out
                  rw [hW]
                  clear hW
                  refine hK.out _ _ (fun h => absurd h (by decide)) ?_
                  clear hK
                  try simp only [Act.put]
                  refine wpAnyT_done (by kernel_rfl) ?_ _
                  clear DX SX M3 GB GZ
                  go_wp2_with fail
                  go_meet
                  exact MB.out
                · skip
                  replace GZ : Hid (Wq.heap.size ≤ w133.heap.size) := GB.out.size
                  go_simp
                  obtain ⟨V137, hW⟩ : ∃ V137, w133.alloc zbox = V137 := ⟨_, rfl⟩
                  obtain ⟨b, sz137⟩ := alo1 w133 zbox
                  rw [hW] at b sz137
                  replace GB := hid (below_step GB.out b)
                  have DX : Hid (Duo V137 w133.heap.size (.bool false) (.slice none 0 0)) := by unfold Hid; rw [← hW]; exact Duo.new w133 _ _
                  have SX := hid (show Wq.heap.size ≤ w133.heap.size from GZ.out)
                  clear sz137
                  replace M1 := hid (M1.out.now b)
                  replace M2 := hid (M2.out.now b)
                  rw [hW]
                  clear hW b
                  refine hK.out _ _ (fun _ => KB.out _ GB.out) ?_
                  clear hK
                  try simp only [Act.put]
                  refine wpAnyT_one (i := 24) (o := { dst := some 80, op := Op.call { callee := Callee.value (Operand.tmp 60), args := #[Operand.tmp 68, Operand.tmp 79], argTypes := #[45, 45] }, type := 45, pos := "elimination.go:59", after := #[{ on := 4, ground := Ground.data }, { on := 12, ground := Ground.data }, { on := 23, ground := Ground.data }, { on := 23, ground := Ground.chain }], guard := none }) (by kernel_rfl) rfl (fun K hK => ?_)
                  replace GZ : Hid (Wq.heap.size ≤ V137.heap.size) := GB.out.size
                  go_simp
                  go_at_call 94
                  refine (sub_z M1.out.zi M2.out.zi (by have := HKW.out; omega) (by have := HKW.out; omega)).mono ?_
                  rintro e w138 ⟨r3, rfl, m1, b⟩
                  have lz138 := (show Below _ _ _ from b).size
                  replace GB := hid (below_step GB.out b)
                  have M3 := hid (m1.mono (Nat.zero_le _))
                  clear m1
                  replace DX := hid (DX.out.step b)
                  obtain ⟨nr, xr, ar, cr, rfl⟩ := M3.out.parts
                  clear M1 M2
                  clear b
                  refine hK.out _ _ (fun _ => KB.out _ GB.out) ?_
                  clear hK
                  refine wpAnyT_one (i := 26) (o := { dst := none, op := Op.store 45 (Operand.tmp 12) (Operand.tmp 80), type := 0, pos := "elimination.go:59", after := #[{ on := 25, ground := Ground.data }, { on := 24, ground := Ground.data }, { on := 24, ground := Ground.chain }, { on := 0, ground := Ground.phase }, { on := 1, ground := Ground.phase }, { on := 2, ground := Ground.phase }, { on := 3, ground := Ground.phase }, { on := 4, ground := Ground.phase }, { on := 5, ground := Ground.phase }, { on := 6, ground := Ground.phase }, { on := 7, ground := Ground.phase }, { on := 8, ground := Ground.phase }, { on := 9, ground := Ground.phase }, { on := 10, ground := Ground.phase }, { on := 11, ground := Ground.phase }, { on := 12, ground := Ground.phase }, { on := 13, ground := Ground.phase }, { on := 14, ground := Ground.phase }, { on := 15, ground := Ground.phase }, { on := 16, ground := Ground.phase }, { on := 17, ground := Ground.phase }, { on := 18, ground := Ground.phase }, { on := 19, ground := Ground.phase }, { on := 20, ground := Ground.phase }, { on := 21, ground := Ground.phase }, { on := 22, ground := Ground.phase }, { on := 23, ground := Ground.phase }, { on := 24, ground := Ground.phase }, { on := 25, ground := Ground.phase }], guard := none }) (by kernel_rfl) rfl (fun K hK => ?_)
                  have e0 := DX.out.c0
                  have e1 := DX.out.c1
                  have e2 := DX.out.fz 0
                  have e3 := DX.out.fz 1
                  go_simp
                  clear e0 e1 e2 e3
                  obtain ⟨V139, hW⟩ : ∃ V139, ((w138.setCell ⟨w133.heap.size, 0, none⟩ (.bool nr)).setCell ⟨w133.heap.size, 1, none⟩ (.slice ar xr.length cr)) = V139 := ⟨_, rfl⟩
                  have MB : Hid (MetX Wq V139 (.pointer (some ⟨w133.heap.size, 0, none⟩)) (P * X - T * N0) (kw + kw + 1)) := by
                    unfold Hid; rw [← hW]
                    exact metb0 DX.out (M3.out.more (by omega)) GB.out SX.out
                  rw [hW]
                  clear hW
                  refine hK.out _ _ (fun h => absurd h (by decide)) ?_
                  clear hK
                  try simp only [Act.put]
                  refine wpAnyT_done (by kernel_rfl) ?_ _
                  clear DX SX M3 GB GZ
                  go_wp2_with fail
                  go_meet
                  exact MB.out
              · skip
                replace GZ : Hid (Wq.heap.size ≤ w132.heap.size) := GB.out.size
                go_simp
                obtain ⟨V140, hW⟩ : ∃ V140, w132.alloc zbox = V140 := ⟨_, rfl⟩
                obtain ⟨b, sz140⟩ := alo1 w132 zbox
                rw [hW] at b sz140
                replace GB := hid (below_step GB.out b)
                have DX : Hid (Duo V140 w132.heap.size (.bool false) (.slice none 0 0)) := by unfold Hid; rw [← hW]; exact Duo.new w132 _ _
                have SX := hid (show Wq.heap.size ≤ w132.heap.size from GZ.out)
                clear sz140
                replace M1 := hid (M1.out.now b)
                rw [hW]
                clear hW b
                refine hK.out _ _ (fun _ => KB.out _ GB.out) ?_
                clear hK
                try simp only [Act.put]
                refine wpAnyT_one (i := 23) (o := { dst := some 79, op := Op.call { callee := Callee.value (Operand.tmp 73), args := #[Operand.tmp 74, Operand.tmp 78], argTypes := #[45, 45] }, type := 45, pos := "elimination.go:59", after := #[{ on := 17, ground := Ground.data }, { on := 18, ground := Ground.data }, { on := 22, ground := Ground.data }, { on := 12, ground := Ground.chain }], guard := none }) (by kernel_rfl) rfl (fun K hK => ?_)
                replace GZ : Hid (Wq.heap.size ≤ V140.heap.size) := GB.out.size
                go_simp
                go_at_call 53
                refine (mul_z (ZT.out.now GB.out).zi (ZN.out.now GB.out).zi (by have := HKW.out; omega)).mono ?_
                rintro e w141 ⟨r2, rfl, m1, b⟩
                have lz141 := (show Below _ _ _ from b).size
                replace GB := hid (below_step GB.out b)
                have M2 := hid (m1.mono (Nat.zero_le _))
                clear m1
                replace DX := hid (DX.out.step b)
                replace M1 := hid (M1.out.now b)
                clear b
                refine hK.out _ _ (fun _ => KB.out _ GB.out) ?_
                clear hK
                refine wpAnyT_one (i := 24) (o := { dst := some 80, op := Op.call { callee := Callee.value (Operand.tmp 60), args := #[Operand.tmp 68, Operand.tmp 79], argTypes := #[45, 45] }, type := 45, pos := "elimination.go:59", after := #[{ on := 4, ground := Ground.data }, { on := 12, ground := Ground.data }, { on := 23, ground := Ground.data }, { on := 23, ground := Ground.chain }], guard := none }) (by kernel_rfl) rfl (fun K hK => ?_)
                replace GZ : Hid (Wq.heap.size ≤ w141.heap.size) := GB.out.size
                go_simp
                go_at_call 94
                refine (sub_z M1.out.zi M2.out.zi (by have := HKW.out; omega) (by have := HKW.out; omega)).mono ?_
                rintro e w142 ⟨r3, rfl, m1, b⟩
                have lz142 := (show Below _ _ _ from b).size
                replace GB := hid (below_step GB.out b)
                have M3 := hid (m1.mono (Nat.zero_le _))
                clear m1
                replace DX := hid (DX.out.step b)
                obtain ⟨nr, xr, ar, cr, rfl⟩ := M3.out.parts
                clear M1 M2
                clear b
                refine hK.out _ _ (fun _ => KB.out _ GB.out) ?_
                clear hK
                refine wpAnyT_one (i := 26) (o := { dst := none, op := Op.store 45 (Operand.tmp 12) (Operand.tmp 80), type := 0, pos := "elimination.go:59", after := #[{ on := 25, ground := Ground.data }, { on := 24, ground := Ground.data }, { on := 24, ground := Ground.chain }, { on := 0, ground := Ground.phase }, { on := 1, ground := Ground.phase }, { on := 2, ground := Ground.phase }, { on := 3, ground := Ground.phase }, { on := 4, ground := Ground.phase }, { on := 5, ground := Ground.phase }, { on := 6, ground := Ground.phase }, { on := 7, ground := Ground.phase }, { on := 8, ground := Ground.phase }, { on := 9, ground := Ground.phase }, { on := 10, ground := Ground.phase }, { on := 11, ground := Ground.phase }, { on := 12, ground := Ground.phase }, { on := 13, ground := Ground.phase }, { on := 14, ground := Ground.phase }, { on := 15, ground := Ground.phase }, { on := 16, ground := Ground.phase }, { on := 17, ground := Ground.phase }, { on := 18, ground := Ground.phase }, { on := 19, ground := Ground.phase }, { on := 20, ground := Ground.phase }, { on := 21, ground := Ground.phase }, { on := 22, ground := Ground.phase }, { on := 23, ground := Ground.phase }, { on := 24, ground := Ground.phase }, { on := 25, ground := Ground.phase }], guard := none }) (by kernel_rfl) rfl (fun K hK => ?_)
                have e0 := DX.out.c0
                have e1 := DX.out.c1
                have e2 := DX.out.fz 0
                have e3 := DX.out.fz 1
                go_simp
                clear e0 e1 e2 e3
                obtain ⟨V143, hW⟩ : ∃ V143, ((w142.setCell ⟨w132.heap.size, 0, none⟩ (.bool nr)).setCell ⟨w132.heap.size, 1, none⟩ (.slice ar xr.length cr)) = V143 := ⟨_, rfl⟩
                have MB : Hid (MetX Wq V143 (.pointer (some ⟨w132.heap.size, 0, none⟩)) (P * X - T * N0) (kw + kw + 1)) := by
                  unfold Hid; rw [← hW]
                  exact metb0 DX.out (M3.out.more (by omega)) GB.out SX.out
                rw [hW]
                clear hW
                refine hK.out _ _ (fun h => absurd h (by decide)) ?_
                clear hK
                try simp only [Act.put]
                refine wpAnyT_done (by kernel_rfl) ?_ _
                clear DX SX M3 GB GZ
                go_wp2_with fail
                go_meet
                exact MB.out
            · skip
              replace GZ : Hid (Wq.heap.size ≤ D131.heap.size) := GB.out.size
              go_simp
              obtain ⟨V144, hW⟩ : ∃ V144, D131.alloc zbox = V144 := ⟨_, rfl⟩
              obtain ⟨b, sz144⟩ := alo1 D131 zbox
              rw [hW] at b sz144
              replace GB := hid (below_step GB.out b)
              have DX : Hid (Duo V144 D131.heap.size (.bool false) (.slice none 0 0)) := by unfold Hid; rw [← hW]; exact Duo.new D131 _ _
              have SX := hid (show Wq.heap.size ≤ D131.heap.size from GZ.out)
              clear sz144
              rw [hW]
              clear hW b
              refine hK.out _ _ (fun _ => KB.out _ GB.out) ?_
              clear hK
              try simp only [Act.put]
              refine wpAnyT_one (i := 12) (o := { dst := some 68, op := Op.call { callee := Callee.value (Operand.tmp 65), args := #[Operand.tmp 66, Operand.tmp 67], argTypes := #[45, 45] }, type := 45, pos := "elimination.go:59", after := #[{ on := 9, ground := Ground.data }, { on := 10, ground := Ground.data }, { on := 11, ground := Ground.data }], guard := none }) (by kernel_rfl) rfl (fun K hK => ?_)
              replace GZ : Hid (Wq.heap.size ≤ V144.heap.size) := GB.out.size
              go_simp
              go_at_call 53
              refine (mul_z (ZP.out.now GB.out).zi (ZX.out.now GB.out).zi (by have := HKW.out; omega)).mono ?_
              rintro e w145 ⟨r1, rfl, m1, b⟩
              have lz145 := (show Below _ _ _ from b).size
              replace GB := hid (below_step GB.out b)
              have M1 := hid (m1.mono (Nat.zero_le _))
              clear m1
              replace DX := hid (DX.out.step b)
              clear b
              refine hK.out _ _ (fun _ => KB.out _ GB.out) ?_
              clear hK
              refine wpAnyT_one (i := 23) (o := { dst := some 79, op := Op.call { callee := Callee.value (Operand.tmp 73), args := #[Operand.tmp 74, Operand.tmp 78], argTypes := #[45, 45] }, type := 45, pos := "elimination.go:59", after := #[{ on := 17, ground := Ground.data }, { on := 18, ground := Ground.data }, { on := 22, ground := Ground.data }, { on := 12, ground := Ground.chain }], guard := none }) (by kernel_rfl) rfl (fun K hK => ?_)
              replace GZ : Hid (Wq.heap.size ≤ w145.heap.size) := GB.out.size
              go_simp
              go_at_call 53
              refine (mul_z (ZT.out.now GB.out).zi (ZN.out.now GB.out).zi (by have := HKW.out; omega)).mono ?_
              rintro e w146 ⟨r2, rfl, m1, b⟩
              have lz146 := (show Below _ _ _ from b).size
              replace GB := hid (below_step GB.out b)
              have M2 := hid (m1.mono (Nat.zero_le _))
              clear m1
              replace DX := hid (DX.out.step b)
              replace M1 := hid (M1.out.now b)
              clear b
              refine hK.out _ _ (fun _ => KB.out _ GB.out) ?_
              clear hK
              refine wpAnyT_one (i := 24) (o := { dst := some 80, op := Op.call { callee := Callee.value (Operand.tmp 60), args := #[Operand.tmp 68, Operand.tmp 79], argTypes := #[45, 45] }, type := 45, pos := "elimination.go:59", after := #[{ on := 4, ground := Ground.data }, { on := 12, ground := Ground.data }, { on := 23, ground := Ground.data }, { on := 23, ground := Ground.chain }], guard := none }) (by kernel_rfl) rfl (fun K hK => ?_)
              replace GZ : Hid (Wq.heap.size ≤ w146.heap.size) := GB.out.size
              go_simp
              go_at_call 94
              refine (sub_z M1.out.zi M2.out.zi (by have := HKW.out; omega) (by have := HKW.out; omega)).mono ?_
              rintro e w147 ⟨r3, rfl, m1, b⟩
              have lz147 := (show Below _ _ _ from b).size
              replace GB := hid (below_step GB.out b)
              have M3 := hid (m1.mono (Nat.zero_le _))
              clear m1
              replace DX := hid (DX.out.step b)
              obtain ⟨nr, xr, ar, cr, rfl⟩ := M3.out.parts
              clear M1 M2
              clear b
              refine hK.out _ _ (fun _ => KB.out _ GB.out) ?_
              clear hK
              refine wpAnyT_one (i := 26) (o := { dst := none, op := Op.store 45 (Operand.tmp 12) (Operand.tmp 80), type := 0, pos := "elimination.go:59", after := #[{ on := 25, ground := Ground.data }, { on := 24, ground := Ground.data }, { on := 24, ground := Ground.chain }, { on := 0, ground := Ground.phase }, { on := 1, ground := Ground.phase }, { on := 2, ground := Ground.phase }, { on := 3, ground := Ground.phase }, { on := 4, ground := Ground.phase }, { on := 5, ground := Ground.phase }, { on := 6, ground := Ground.phase }, { on := 7, ground := Ground.phase }, { on := 8, ground := Ground.phase }, { on := 9, ground := Ground.phase }, { on := 10, ground := Ground.phase }, { on := 11, ground := Ground.phase }, { on := 12, ground := Ground.phase }, { on := 13, ground := Ground.phase }, { on := 14, ground := Ground.phase }, { on := 15, ground := Ground.phase }, { on := 16, ground := Ground.phase }, { on := 17, ground := Ground.phase }, { on := 18, ground := Ground.phase }, { on := 19, ground := Ground.phase }, { on := 20, ground := Ground.phase }, { on := 21, ground := Ground.phase }, { on := 22, ground := Ground.phase }, { on := 23, ground := Ground.phase }, { on := 24, ground := Ground.phase }, { on := 25, ground := Ground.phase }], guard := none }) (by kernel_rfl) rfl (fun K hK => ?_)
              have e0 := DX.out.c0
              have e1 := DX.out.c1
              have e2 := DX.out.fz 0
              have e3 := DX.out.fz 1
              go_simp
              clear e0 e1 e2 e3
              obtain ⟨V148, hW⟩ : ∃ V148, ((w147.setCell ⟨D131.heap.size, 0, none⟩ (.bool nr)).setCell ⟨D131.heap.size, 1, none⟩ (.slice ar xr.length cr)) = V148 := ⟨_, rfl⟩
              have MB : Hid (MetX Wq V148 (.pointer (some ⟨D131.heap.size, 0, none⟩)) (P * X - T * N0) (kw + kw + 1)) := by
                unfold Hid; rw [← hW]
                exact metb0 DX.out (M3.out.more (by omega)) GB.out SX.out
              rw [hW]
              clear hW
              refine hK.out _ _ (fun h => absurd h (by decide)) ?_
              clear hK
              try simp only [Act.put]
              refine wpAnyT_done (by kernel_rfl) ?_ _
              clear DX SX M3 GB GZ
              go_wp2_with fail
              go_meet
              exact MB.out
        case rest =>
        rename World => Wx
        obtain ⟨bx, nr, xr, ar, cr, rfl, b, hbx, dx, zx⟩ := hcut
        rw [HEJ.out] at zx
        have KDx := hid (KD.out.now b)
        have HS : Hid (∀ w', Below Wx.heap.size Wx w' → Calls Tryz.prog 95 #[.agg #[.bool nr, .slice ar xr.length cr], .agg #[.bool nd, .slice ad ld cd]] w' (GivesZ w' (F1 j) (kw + kw + 1))) := fun w' hb => by
          have := ovr_any (zx.now hb).zi (KDx.out.now hb).zi HD0.out (by have := HKW.out; omega) (by have := HKW.out; omega) (Int.mul_tmod_right _ _)
          rw [Int.mul_tdiv_cancel_left _ HD0.out] at this
          exact this
        have d0 := dx.c0
        have d1 := dx.c1
        have KEx : Hid (Ebx Wx Bs x y lv (.bool nd) (.slice ad ld cd) pv) := Cel.step KE.out b
        have s5 := Cel.at KEx.out (i := 5) rfl
        have s7 := Cel.at KEx.out (i := 7) rfl
        have s8 := Cel.at KEx.out (i := 8) rfl
        replace AR1 := hid (AR1.out.step b)
        replace ZL1 := hid (ZL1.out.now b)
        replace TV1 : Hid (Touch (· = g) Wo Wx) := TV1.out.trans (.ofBelow b)
        clear zx dx b hbx ZX ZN ZP ZT KE KD KDx KEx DP3 DT3 PN q0 q1 s3 s4 p0 p1 t0 t1 n0 n1 hX' HEJ
        go_wp2_with fail
        skip
        · skip
          · skip
            have KB : Hid (∀ w', Below Wx.heap.size Wx w' → w'.cell? ⟨Bs, 5, none⟩ = some fnO17 ∧ w'.cell? ⟨Bs, 7, none⟩ = some (.bool nd) ∧ w'.cell? ⟨Bs, 8, none⟩ = some (.slice ad ld cd) ∧ w'.cell? ⟨bx, 0, none⟩ = some (.bool nr) ∧ w'.cell? ⟨bx, 1, none⟩ = some (.slice ar xr.length cr)) := fun w' h => ⟨cnow h s5, cnow h s7, cnow h s8, cnow h d0, cnow h d1⟩
            refine wp_region_tail (fun w' => w'.cell? ⟨Bs, 5, none⟩ = some fnO17 ∧ w'.cell? ⟨Bs, 7, none⟩ = some (.bool nd) ∧ w'.cell? ⟨Bs, 8, none⟩ = some (.slice ad ld cd) ∧ w'.cell? ⟨bx, 0, none⟩ = some (.bool nr) ∧ w'.cell? ⟨bx, 1, none⟩ = some (.slice ar xr.length cr)) 14 (by kernel_rfl) ?_
            obtain ⟨D181, hD⟩ : ∃ D181, Wx.drew = D181 := ⟨_, rfl⟩
            have GB : Hid (Below Wx.heap.size Wx D181) := by unfold Hid; rw [← hD]; exact (Below.refl _ _).drew
            rw [hD]
            clear hD
            refine wpAnyT_list [(0, (.slice (some ⟨g, 0, none⟩) n n)), (1, (.int .i64 (j : Int))), (2, (.pointer (some ⟨Bs, 0, none⟩))), (3, (.pointer (some ⟨Bs, 0, none⟩))), (4, (.pointer (some ⟨Bs, 0, none⟩))), (5, (.pointer (some ⟨Bs, 5, none⟩))), (6, fnO17), (7, (.agg #[.bool nr, .slice ar xr.length cr])), (8, (.pointer (some ⟨Bs, 0, none⟩))), (9, (.pointer (some ⟨Bs, 0, none⟩))), (10, (.pointer (some ⟨Bs, 7, none⟩))), (11, (.agg #[.bool nd, .slice ad ld cd]))] 12 ?_ (KB.out _ GB.out) ?_
            · simp only [TakesV, gA9, g09, g19, Act.put, sI9, s09, s19]
              (repeat' (first | exact trivial | refine And.intro (Or.inl ⟨by rfl, ?_⟩) ?_)) <;> (intro w hSw; (try dsimp only at hSw); go_simp)
            simp only [actV, gA9, g09, g19, Act.put, sI9, s09, s19]
            refine wpAnyT_one (i := 12) (o := { dst := some 93, op := Op.call { callee := Callee.value (Operand.tmp 87), args := #[Operand.tmp 88, Operand.tmp 92], argTypes := #[45, 45] }, type := 45, pos := "elimination.go:60", after := #[{ on := 6, ground := Ground.data }, { on := 7, ground := Ground.data }, { on := 11, ground := Ground.data }], guard := none }) (by kernel_rfl) rfl (fun K hK => ?_)
            go_simp
            go_at_call 95
            refine (HS.out _ GB.out).mono ?_
            rintro e w182 ⟨rq, rfl, mq, b⟩
            have lz182 := (show Below _ _ _ from b).size
            replace GB := hid (below_step GB.out b)
            obtain ⟨nq, xq, aq, cq, rfl⟩ := mq.parts
            have MQ := hid ((mq.mono (Nat.zero_le _)).fit (HF.out j hlt))
            have AR2 := hid (AR1.out.step GB.out)
            have ZL2 := hid (ZL1.out.now GB.out)
            have TV2 := hid (TV1.out.trans (.ofBelow GB.out))
            clear mq
            clear b
            refine hK.out _ _ (fun _ => KB.out _ GB.out) ?_
            clear hK
            refine wpAnyT_list [(13, (.pointer (some ⟨g, j * 2, none⟩)))] 1 ?_ (KB.out _ GB.out) ?_
            · simp only [TakesV, gA9, g09, g19, Act.put, sI9, s09, s19]
              (repeat' (first | exact trivial | refine And.intro (Or.inl ⟨by rfl, ?_⟩) ?_)) <;> (intro w hSw; (try dsimp only at hSw); go_simp)
            simp only [actV, gA9, g09, g19, Act.put, sI9, s09, s19]
            refine wpAnyT_one (i := 14) (o := { dst := none, op := Op.store 45 (Operand.tmp 94) (Operand.tmp 93), type := 0, pos := "elimination.go:60", after := #[{ on := 13, ground := Ground.data }, { on := 12, ground := Ground.data }, { on := 12, ground := Ground.chain }, { on := 0, ground := Ground.phase }, { on := 1, ground := Ground.phase }, { on := 2, ground := Ground.phase }, { on := 3, ground := Ground.phase }, { on := 4, ground := Ground.phase }, { on := 5, ground := Ground.phase }, { on := 6, ground := Ground.phase }, { on := 7, ground := Ground.phase }, { on := 8, ground := Ground.phase }, { on := 9, ground := Ground.phase }, { on := 10, ground := Ground.phase }, { on := 11, ground := Ground.phase }, { on := 12, ground := Ground.phase }], guard := none }) (by kernel_rfl) rfl (fun K hK => ?_)
            obtain ⟨_, _, _, _, f0, f1, f2, f3, -⟩ := ZL2.out.at AR2.out (t := j) (by simp; exact hlt)
            go_simp
            clear f0 f1 f2 f3
            obtain ⟨V183, hW⟩ : ∃ V183, ((w182.setCell ⟨g, j * 2, none⟩ (.bool nq)).setCell ⟨g, j * 2 + 1, none⟩ (.slice aq xq.length cq)) = V183 := ⟨_, rfl⟩
            have HN1 : Hid (RI13 Wo g n F F1 kw (n - (j + 1)) (.int .i64 ((j + 1 : Nat) : Int)) V183) := by
              unfold Hid; rw [← hW]
              obtain ⟨u1, u2, u3⟩ := ZL2.out.put AR2.out (t := j) (by simp; exact hlt) MQ.out
              rw [mx13_step _ _ hlt] at u2
              exact ⟨j + 1, _, rfl, by omega, rfl, u1, u2, (TV2.out.setCell (.inr rfl) _ _).setCell (.inr rfl) _ _⟩
            rw [hW]
            clear hW
            refine hK.out _ _ (fun h => absurd h (by decide)) ?_
            clear hK
            try simp only [Act.put]
            refine wpAnyT_done (by kernel_rfl) ?_ _
            clear GB KB MQ AR2 ZL2 TV2 HS AR1 ZL1 TV1 d0 d1 s5 s7 s8
            go_wp2_with fail
            go_roundg (n - (j + 1))
            case rel => exact HN1.out
            case measure => exact HMM.out
    · have hlt' : ¬ (j : Int) < (n : Int) := by omega
      obtain rfl : j = n := by omega
      have FF := hid (FIN.out wr ⟨qz, AR.out, by rw [← mx13_all F F1]; exact ZL.out, TW2.out⟩)
      clear AR ZL TW HG FIN DP2 DT2 ZP2 ZT2 TY TW2
      go_wp2
      go_end0
      exact FF.out
end Go.Proofs.YtcceoildbnoliaaGreat
