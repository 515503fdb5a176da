/-
  ZReads: the law's reads.
-/
import Derived.Test.YtpnekeapbpkioaaDoorQZWritten
namespace Go.Proofs.YtpnekeapbpkioaaDoor
open Go.RowKit
set_option linter.unusedVariables false

def atS (l : List UInt8) : Nat := if l.take 1 = [43] then 1 else if l.take 1 = [45] then 1 else if l.take 3 = [226, 136, 146] then 3 else 0
theorem at_drop (l : List UInt8) : l.drop (atS l) = (cutS l).2 := by
  unfold atS cutS
  (repeat' split) <;> simp
theorem wr_ok {w : World} {l : List UInt8} {t : Nat} (ht : t ≤ l.length) (hl : l.length ≤ 1000000000) (hd : l.drop t = (cutS l).2) (h : Takes l) :
    Calls Tryd.prog 14 #[.string ⟨l.toArray⟩, .int .i64 (t : Int)] w fun e w' => ∃ r, e = .returned (.tuple #[r, .bool true]) ∧ Zm w.heap.size w' r ((ofD 10 (dsL (cutS l).2) : Nat) : Int) (l.length + 1) ∧ Below w.heap.size w w' :=
  (written_z ht hl).mono fun e w' q => by
    unfold WrPost at q
    rw [hd] at q
    rcases q with ⟨_, r, h1, h2, h3⟩ | ⟨g, _⟩
    · have hlt : t < l.length := by
        have := congrArg List.length hd
        have := List.length_pos_iff.2 h.1
        simp at *
        omega
      rw [decide_eq_true hlt] at h1
      exact ⟨r, h1, h2, h3⟩
    · exact absurd h.2 g
theorem wr_no {w : World} {l : List UInt8} {t : Nat} (ht : t ≤ l.length) (hl : l.length ≤ 1000000000) (hd : l.drop t = (cutS l).2) (h : ¬ Takes l) :
    Calls Tryd.prog 14 #[.string ⟨l.toArray⟩, .int .i64 (t : Int)] w fun e w' => ∃ r, e = .returned (.tuple #[r, .bool false]) ∧ (∃ z k, Zm w.heap.size w' r z k) ∧ Below w.heap.size w w' :=
  (written_z ht hl).mono fun e w' q => by
    unfold WrPost at q
    rw [hd] at q
    rcases q with ⟨g, r, h1, h2, h3⟩ | ⟨g, r, z, k, h1, h2, h3⟩
    · have hlt : ¬ t < l.length := fun hlt => h ⟨fun e => by
        have := congrArg List.length (hd.trans e)
        simp at this
        omega, g⟩
      rw [decide_eq_false hlt] at h1
      exact ⟨r, h1, ⟨_, _, h2⟩, h3⟩
    · exact ⟨r, h1, ⟨_, _, h2⟩, h3⟩
theorem rd_ok {w : World} {l : List UInt8} (hT : Sg w) (hl : l.length ≤ 1000000000) (h : Takes l) : Calls Tryd.prog 7 #[.string ⟨l.toArray⟩] w fun e w' => ∃ r, e = .returned (.tuple #[r, .int .i64 0]) ∧ Zm 0 w' r (sval l) 35184372088832 ∧ Below w.heap.size w w' :=
  (read_z hT hl).mono fun e w' q => by
    rcases q with ⟨_, q⟩ | ⟨g, _⟩
    · exact q
    · exact absurd h g
theorem rd_no {w : World} {l : List UInt8} (hT : Sg w) (hl : l.length ≤ 1000000000) (h : ¬ Takes l) : Calls Tryd.prog 7 #[.string ⟨l.toArray⟩] w fun e w' => e = .returned (.tuple #[.agg #[.bool false, .slice none 0 0], .int .i64 7]) ∧ Below w.heap.size w w' :=
  (read_z hT hl).mono fun e w' q => by
    rcases q with ⟨g, _⟩ | ⟨_, q⟩
    · exact absurd g h
    · exact q
theorem long_yes (u : ByteArray) (l : List UInt8) (h3 : 3 ≤ l.length) (hu : u = (⟨l.toArray⟩ : ByteArray).extract 0 3) : u.toList = l.take 3 := by
  rw [hu, Lib.extract_mk, Lib.toList_data]
  simp
theorem str_to (w : World) (s : ByteArray) (h : 3 ≤ s.size) : (Instr.slice 9 (.string s) none (some (.int .i64 3)) none).run Tryd.prog w = .ok (.string (s.extract 0 3)) w := by
  have i3 : (3 : Int) ≤ (s.size : Int) := by omega
  go_simp

set_option maxHeartbeats 6400000 in
set_option maxRecDepth 100000 in
theorem reads_plus {w : World} {r : List UInt8} (h3 : ¬ 3 ≤ (43 :: r).length) (hT : Sg w) (hl : (43 :: r).length ≤ 1000000000) :
    Calls Tryd.prog 5 #[.string ⟨(43 :: r).toArray⟩] w fun e w' => e = .returned (.bool true) ∧ Below w.heap.size w w' := by
  obtain ⟨l, hlw⟩ : ∃ l, l = 43 :: r := ⟨_, rfl⟩
  rw [← hlw] at hl ⊢
  have hsz : (⟨l.toArray⟩ : ByteArray).size = l.length := mk_size l
  have h0 : 0 < (⟨l.toArray⟩ : ByteArray).size := by rw [hsz, hlw]; simp
  have hix : (((⟨l.toArray⟩ : ByteArray)[0]'h0).toNat : Int) = 43 := by subst hlw; rfl
  have h0' : (0 : Int) < ((⟨l.toArray⟩ : ByteArray).size : Int) := by omega
  have q43 : ((43 : Int) == 43) = true := rfl
  have q45 : ((43 : Int) == 45) = false := rfl
  have hneg : (cutS l).1 = false := by subst hlw; rfl
  have hdr : l.drop 1 = (cutS l).2 := by subst hlw; rfl
  have hat : 1 ≤ l.length := by subst hlw; simp
  have h3' : ¬ (3 : Int) ≤ ((⟨l.toArray⟩ : ByteArray).size : Int) := by rw [hsz, hlw]; omega
  have hsv : sval l = if (cutS l).1 = true then -((ofD 10 (dsL (cutS l).2) : Nat) : Int) else ((ofD 10 (dsL (cutS l).2) : Nat) : Int) := rfl
  rw [hneg] at hsv
  rw [if_neg (by simp)] at hsv
  have HT := hid hT
  have G : Hid (Below w.heap.size w w) := Below.refl _ _
  by_cases hk : Takes l
  · skip
    have HW : Hid (∀ w, Calls Tryd.prog 14 #[.string ⟨l.toArray⟩, .int .i64 1] w fun e w' => ∃ r, e = .returned (.tuple #[r, .bool true]) ∧ Zm w.heap.size w' r ((ofD 10 (dsL (cutS l).2) : Nat) : Int) (l.length + 1) ∧ Below w.heap.size w w') := fun w => wr_ok (t := 1) hat hl hdr hk
    have HR : Hid (∀ w, Sg w → Calls Tryd.prog 7 #[.string ⟨l.toArray⟩] w fun e w' => ∃ r, e = .returned (.tuple #[r, .int .i64 0]) ∧ Zm 0 w' r (sval l) 35184372088832 ∧ Below w.heap.size w w') := fun w h => rd_ok h hl hk
    rw [hsv] at HR
    generalize ((ofD 10 (dsL (cutS l).2) : Nat) : Int) = V at *
    clear hk hsv hdr hneg hT hat
    generalize (⟨l.toArray⟩ : ByteArray) = s at *
    generalize l.length = n at *
    (try clear hlw)
    go_enter Tryd.func5, Tryd.ntmps5
    go_wp2_with fail
    refine (HW.out w).mono ?_
    rintro e w1 ⟨r0, rfl, m0, b⟩
    obtain ⟨nv, xv, adv, qv, rfl, -, -, -, -, -⟩ := id m0
    replace HT := hid (HT.out.now b)
    replace G := hid (below_step G.out b)
    have lz2 := (show Below _ _ _ from b).size
    have Zv := hid m0
    clear b m0
    obtain ⟨V3, hW⟩ : ∃ V3, w1.alloc (duo (.bool nv) (.slice adv xv.length qv)) = V3 := ⟨_, rfl⟩
    obtain ⟨kW, sz3⟩ := alloc1 w1 (duo (.bool nv) (.slice adv xv.length qv))
    rw [hW] at kW sz3
    replace Zv := hid (Zv.out.now kW)
    replace HT := hid (HT.out.now kW)
    replace G := hid (below_step G.out kW)
    have lz4 := (show Below _ _ _ from kW).size
    have Pv : Hid (Duo V3 (w1.heap.size) (.bool nv) (.slice adv xv.length qv)) := by unfold Hid; rw [← hW]; exact duo_at (by simp)
    clear kW
    have EW := hid hW
    clear hW
    go_wp2_with fail
    rw [EW.out]
    clear EW
    refine (HR.out _ HT.out).mono ?_
    rintro e w5 ⟨r0, rfl, m0, b⟩
    obtain ⟨nx, xx, adx, qx, rfl, -, -, -, -, -⟩ := id m0
    replace Zv := hid (Zv.out.now b)
    replace Pv := hid (Pv.out.step b)
    replace HT := hid (HT.out.now b)
    replace G := hid (below_step G.out b)
    have lz6 := (show Below _ _ _ from b).size
    have Zx := hid m0
    clear b m0
    clear HW HR HT
    obtain ⟨V7, hW⟩ : ∃ V7, w5.alloc (duo (.bool nx) (.slice adx xx.length qx)) = V7 := ⟨_, rfl⟩
    obtain ⟨kW, sz7⟩ := alloc1 w5 (duo (.bool nx) (.slice adx xx.length qx))
    rw [hW] at kW sz7
    replace Zv := hid (Zv.out.now kW)
    replace Zx := hid (Zx.out.now kW)
    replace Pv := hid (Pv.out.step kW)
    replace G := hid (below_step G.out kW)
    have lz8 := (show Below _ _ _ from kW).size
    have Px : Hid (Duo V7 (w5.heap.size) (.bool nx) (.slice adx xx.length qx)) := by unfold Hid; rw [← hW]; exact duo_at (by simp)
    clear kW
    have q0 : ((0 : Int) == 0) = true := rfl
    have cx0 := Px.out.c0
    have cx1 := Px.out.c1
    have cv0 := Pv.out.c0
    have cv1 := Pv.out.c1
    rw [← hW] at cx0 cx1 cv0 cv1
    have EW := hid hW
    clear hW
    go_wp2_with fail
    rw [EW.out]
    clear EW
    clear cx0 cx1 cv0 cv1
    refine (alike_yes Zx.out Zv.out rfl).mono ?_
    rintro e w9 ⟨rfl, b⟩
    replace Zv := hid (Zv.out.now b)
    replace Zx := hid (Zx.out.now b)
    replace Pv := hid (Pv.out.step b)
    replace Px := hid (Px.out.step b)
    replace G := hid (below_step G.out b)
    have lz10 := (show Below _ _ _ from b).size
    clear b 
    go_wp2
    go_ret
    exact ⟨rfl, G.out⟩
  · skip
    have HW : Hid (∀ w, Calls Tryd.prog 14 #[.string ⟨l.toArray⟩, .int .i64 1] w fun e w' => ∃ r, e = .returned (.tuple #[r, .bool false]) ∧ (∃ z k, Zm w.heap.size w' r z k) ∧ Below w.heap.size w w') := fun w => wr_no (t := 1) hat hl hdr hk
    have HR : Hid (∀ w, Sg w → Calls Tryd.prog 7 #[.string ⟨l.toArray⟩] w fun e w' => e = .returned (.tuple #[.agg #[.bool false, .slice none 0 0], .int .i64 7]) ∧ Below w.heap.size w w') := fun w h => rd_no h hl hk
    clear hk hsv hdr hneg hT hat
    generalize (⟨l.toArray⟩ : ByteArray) = s at *
    generalize l.length = n at *
    (try clear hlw)
    go_enter Tryd.func5, Tryd.ntmps5
    go_wp2_with fail
    refine (HW.out w).mono ?_
    rintro e w1 ⟨r0, rfl, ⟨zv, kv, m0⟩, b⟩
    obtain ⟨nv, xv, adv, qv, rfl, -, -, -, -, -⟩ := id m0
    replace HT := hid (HT.out.now b)
    replace G := hid (below_step G.out b)
    have lz2 := (show Below _ _ _ from b).size
    have Zv := hid m0
    clear b m0
    obtain ⟨V3, hW⟩ : ∃ V3, w1.alloc (duo (.bool nv) (.slice adv xv.length qv)) = V3 := ⟨_, rfl⟩
    obtain ⟨kW, sz3⟩ := alloc1 w1 (duo (.bool nv) (.slice adv xv.length qv))
    rw [hW] at kW sz3
    replace Zv := hid (Zv.out.now kW)
    replace HT := hid (HT.out.now kW)
    replace G := hid (below_step G.out kW)
    have lz4 := (show Below _ _ _ from kW).size
    have Pv : Hid (Duo V3 (w1.heap.size) (.bool nv) (.slice adv xv.length qv)) := by unfold Hid; rw [← hW]; exact duo_at (by simp)
    clear kW
    have EW := hid hW
    clear hW
    go_wp2_with fail
    rw [EW.out]
    clear EW
    refine (HR.out _ HT.out).mono ?_
    rintro e w5 ⟨rfl, b⟩
    replace Zv := hid (Zv.out.now b)
    replace Pv := hid (Pv.out.step b)
    replace HT := hid (HT.out.now b)
    replace G := hid (below_step G.out b)
    have lz6 := (show Below _ _ _ from b).size
    clear b 
    clear HW HR HT
    have q7 : ((7 : Int) == 7) = true := rfl
    have q0 : ((0 : Int) == 0) = true := rfl
    obtain ⟨VX, hW⟩ : ∃ VX, w5.alloc zbox = VX := ⟨_, rfl⟩
    have kx : Below w5.heap.size w5 VX := by rw [← hW]; exact (Below.refl _ _).alloc (Nat.le_refl _) _
    have px : Duo VX w5.heap.size (.bool false) (.slice none 0 0) := by rw [← hW]; exact duo_at rfl
    have G2 := hid (below_step G.out kx)
    have cx0 := px.c0
    have cx1 := px.c1
    rw [← hW] at cx0 cx1
    have EW := hid hW
    clear hW kx px
    go_wp2
    rw [EW.out]
    go_ret
    exact ⟨rfl, G2.out⟩

set_option maxHeartbeats 6400000 in
set_option maxRecDepth 100000 in
theorem reads_plus3 {w : World} {r : List UInt8} (h3 : 3 ≤ (43 :: r).length) (hT : Sg w) (hl : (43 :: r).length ≤ 1000000000) :
    Calls Tryd.prog 5 #[.string ⟨(43 :: r).toArray⟩] w fun e w' => e = .returned (.bool true) ∧ Below w.heap.size w w' := by
  obtain ⟨l, hlw⟩ : ∃ l, l = 43 :: r := ⟨_, rfl⟩
  rw [← hlw] at hl ⊢
  have hsz : (⟨l.toArray⟩ : ByteArray).size = l.length := mk_size l
  have h0 : 0 < (⟨l.toArray⟩ : ByteArray).size := by rw [hsz, hlw]; simp
  have hix : (((⟨l.toArray⟩ : ByteArray)[0]'h0).toNat : Int) = 43 := by subst hlw; rfl
  have h0' : (0 : Int) < ((⟨l.toArray⟩ : ByteArray).size : Int) := by omega
  have q43 : ((43 : Int) == 43) = true := rfl
  have q45 : ((43 : Int) == 45) = false := rfl
  have hneg : (cutS l).1 = false := by subst hlw; rfl
  have hdr : l.drop 1 = (cutS l).2 := by subst hlw; rfl
  have hat : 1 ≤ l.length := by subst hlw; simp
  have h3' : (3 : Int) ≤ ((⟨l.toArray⟩ : ByteArray).size : Int) := by rw [hsz, hlw]; omega
  obtain ⟨u, hu⟩ : ∃ u, u = (⟨l.toArray⟩ : ByteArray).extract 0 3 := ⟨_, rfl⟩
  have sl3 : ∀ w, (Instr.slice 9 (.string ⟨l.toArray⟩) none (some (.int .i64 3)) none).run Tryd.prog w = .ok (.string u) w := fun w => by rw [hu]; exact str_to w _ (by omega)
  have hul := long_yes u l (by omega) hu
  have quL : (u.toList == [226, 136, 146]) = false := by rw [hul, hlw]; simp
  clear hu hul
  have hsv : sval l = if (cutS l).1 = true then -((ofD 10 (dsL (cutS l).2) : Nat) : Int) else ((ofD 10 (dsL (cutS l).2) : Nat) : Int) := rfl
  rw [hneg] at hsv
  rw [if_neg (by simp)] at hsv
  have HT := hid hT
  have G : Hid (Below w.heap.size w w) := Below.refl _ _
  by_cases hk : Takes l
  · skip
    have HW : Hid (∀ w, Calls Tryd.prog 14 #[.string ⟨l.toArray⟩, .int .i64 1] w fun e w' => ∃ r, e = .returned (.tuple #[r, .bool true]) ∧ Zm w.heap.size w' r ((ofD 10 (dsL (cutS l).2) : Nat) : Int) (l.length + 1) ∧ Below w.heap.size w w') := fun w => wr_ok (t := 1) hat hl hdr hk
    have HR : Hid (∀ w, Sg w → Calls Tryd.prog 7 #[.string ⟨l.toArray⟩] w fun e w' => ∃ r, e = .returned (.tuple #[r, .int .i64 0]) ∧ Zm 0 w' r (sval l) 35184372088832 ∧ Below w.heap.size w w') := fun w h => rd_ok h hl hk
    rw [hsv] at HR
    generalize ((ofD 10 (dsL (cutS l).2) : Nat) : Int) = V at *
    clear hk hsv hdr hneg hT hat
    generalize (⟨l.toArray⟩ : ByteArray) = s at *
    generalize l.length = n at *
    (try clear hlw)
    go_enter Tryd.func5, Tryd.ntmps5
    go_wp2_with fail
    refine (HW.out w).mono ?_
    rintro e w1 ⟨r0, rfl, m0, b⟩
    obtain ⟨nv, xv, adv, qv, rfl, -, -, -, -, -⟩ := id m0
    replace HT := hid (HT.out.now b)
    replace G := hid (below_step G.out b)
    have lz2 := (show Below _ _ _ from b).size
    have Zv := hid m0
    clear b m0
    obtain ⟨V3, hW⟩ : ∃ V3, w1.alloc (duo (.bool nv) (.slice adv xv.length qv)) = V3 := ⟨_, rfl⟩
    obtain ⟨kW, sz3⟩ := alloc1 w1 (duo (.bool nv) (.slice adv xv.length qv))
    rw [hW] at kW sz3
    replace Zv := hid (Zv.out.now kW)
    replace HT := hid (HT.out.now kW)
    replace G := hid (below_step G.out kW)
    have lz4 := (show Below _ _ _ from kW).size
    have Pv : Hid (Duo V3 (w1.heap.size) (.bool nv) (.slice adv xv.length qv)) := by unfold Hid; rw [← hW]; exact duo_at (by simp)
    clear kW
    have EW := hid hW
    clear hW
    go_wp2_with fail
    rw [EW.out]
    clear EW
    refine (HR.out _ HT.out).mono ?_
    rintro e w5 ⟨r0, rfl, m0, b⟩
    obtain ⟨nx, xx, adx, qx, rfl, -, -, -, -, -⟩ := id m0
    replace Zv := hid (Zv.out.now b)
    replace Pv := hid (Pv.out.step b)
    replace HT := hid (HT.out.now b)
    replace G := hid (below_step G.out b)
    have lz6 := (show Below _ _ _ from b).size
    have Zx := hid m0
    clear b m0
    clear HW HR HT
    obtain ⟨V7, hW⟩ : ∃ V7, w5.alloc (duo (.bool nx) (.slice adx xx.length qx)) = V7 := ⟨_, rfl⟩
    obtain ⟨kW, sz7⟩ := alloc1 w5 (duo (.bool nx) (.slice adx xx.length qx))
    rw [hW] at kW sz7
    replace Zv := hid (Zv.out.now kW)
    replace Zx := hid (Zx.out.now kW)
    replace Pv := hid (Pv.out.step kW)
    replace G := hid (below_step G.out kW)
    have lz8 := (show Below _ _ _ from kW).size
    have Px : Hid (Duo V7 (w5.heap.size) (.bool nx) (.slice adx xx.length qx)) := by unfold Hid; rw [← hW]; exact duo_at (by simp)
    clear kW
    have q0 : ((0 : Int) == 0) = true := rfl
    have cx0 := Px.out.c0
    have cx1 := Px.out.c1
    have cv0 := Pv.out.c0
    have cv1 := Pv.out.c1
    rw [← hW] at cx0 cx1 cv0 cv1
    have EW := hid hW
    clear hW
    go_wp2_with fail
    rw [EW.out]
    clear EW
    clear cx0 cx1 cv0 cv1
    refine (alike_yes Zx.out Zv.out rfl).mono ?_
    rintro e w9 ⟨rfl, b⟩
    replace Zv := hid (Zv.out.now b)
    replace Zx := hid (Zx.out.now b)
    replace Pv := hid (Pv.out.step b)
    replace Px := hid (Px.out.step b)
    replace G := hid (below_step G.out b)
    have lz10 := (show Below _ _ _ from b).size
    clear b 
    go_wp2
    go_ret
    exact ⟨rfl, G.out⟩
  · skip
    have HW : Hid (∀ w, Calls Tryd.prog 14 #[.string ⟨l.toArray⟩, .int .i64 1] w fun e w' => ∃ r, e = .returned (.tuple #[r, .bool false]) ∧ (∃ z k, Zm w.heap.size w' r z k) ∧ Below w.heap.size w w') := fun w => wr_no (t := 1) hat hl hdr hk
    have HR : Hid (∀ w, Sg w → Calls Tryd.prog 7 #[.string ⟨l.toArray⟩] w fun e w' => e = .returned (.tuple #[.agg #[.bool false, .slice none 0 0], .int .i64 7]) ∧ Below w.heap.size w w') := fun w h => rd_no h hl hk
    clear hk hsv hdr hneg hT hat
    generalize (⟨l.toArray⟩ : ByteArray) = s at *
    generalize l.length = n at *
    (try clear hlw)
    go_enter Tryd.func5, Tryd.ntmps5
    go_wp2_with fail
    refine (HW.out w).mono ?_
    rintro e w1 ⟨r0, rfl, ⟨zv, kv, m0⟩, b⟩
    obtain ⟨nv, xv, adv, qv, rfl, -, -, -, -, -⟩ := id m0
    replace HT := hid (HT.out.now b)
    replace G := hid (below_step G.out b)
    have lz2 := (show Below _ _ _ from b).size
    have Zv := hid m0
    clear b m0
    obtain ⟨V3, hW⟩ : ∃ V3, w1.alloc (duo (.bool nv) (.slice adv xv.length qv)) = V3 := ⟨_, rfl⟩
    obtain ⟨kW, sz3⟩ := alloc1 w1 (duo (.bool nv) (.slice adv xv.length qv))
    rw [hW] at kW sz3
    replace Zv := hid (Zv.out.now kW)
    replace HT := hid (HT.out.now kW)
    replace G := hid (below_step G.out kW)
    have lz4 := (show Below _ _ _ from kW).size
    have Pv : Hid (Duo V3 (w1.heap.size) (.bool nv) (.slice adv xv.length qv)) := by unfold Hid; rw [← hW]; exact duo_at (by simp)
    clear kW
    have EW := hid hW
    clear hW
    go_wp2_with fail
    rw [EW.out]
    clear EW
    refine (HR.out _ HT.out).mono ?_
    rintro e w5 ⟨rfl, b⟩
    replace Zv := hid (Zv.out.now b)
    replace Pv := hid (Pv.out.step b)
    replace HT := hid (HT.out.now b)
    replace G := hid (below_step G.out b)
    have lz6 := (show Below _ _ _ from b).size
    clear b 
    clear HW HR HT
    have q7 : ((7 : Int) == 7) = true := rfl
    have q0 : ((0 : Int) == 0) = true := rfl
    obtain ⟨VX, hW⟩ : ∃ VX, w5.alloc zbox = VX := ⟨_, rfl⟩
    have kx : Below w5.heap.size w5 VX := by rw [← hW]; exact (Below.refl _ _).alloc (Nat.le_refl _) _
    have px : Duo VX w5.heap.size (.bool false) (.slice none 0 0) := by rw [← hW]; exact duo_at rfl
    have G2 := hid (below_step G.out kx)
    have cx0 := px.c0
    have cx1 := px.c1
    rw [← hW] at cx0 cx1
    have EW := hid hW
    clear hW kx px
    go_wp2
    rw [EW.out]
    go_ret
    exact ⟨rfl, G2.out⟩

set_option maxHeartbeats 6400000 in
set_option maxRecDepth 100000 in
theorem reads_minus {w : World} {r : List UInt8} (h3 : ¬ 3 ≤ (45 :: r).length) (hT : Sg w) (hl : (45 :: r).length ≤ 1000000000) :
    Calls Tryd.prog 5 #[.string ⟨(45 :: r).toArray⟩] w fun e w' => e = .returned (.bool true) ∧ Below w.heap.size w w' := by
  obtain ⟨l, hlw⟩ : ∃ l, l = 45 :: r := ⟨_, rfl⟩
  rw [← hlw] at hl ⊢
  have hsz : (⟨l.toArray⟩ : ByteArray).size = l.length := mk_size l
  have h0 : 0 < (⟨l.toArray⟩ : ByteArray).size := by rw [hsz, hlw]; simp
  have hix : (((⟨l.toArray⟩ : ByteArray)[0]'h0).toNat : Int) = 45 := by subst hlw; rfl
  have h0' : (0 : Int) < ((⟨l.toArray⟩ : ByteArray).size : Int) := by omega
  have q43 : ((45 : Int) == 43) = false := rfl
  have q45 : ((45 : Int) == 45) = true := rfl
  have hneg : (cutS l).1 = true := by subst hlw; rfl
  have hdr : l.drop 1 = (cutS l).2 := by subst hlw; rfl
  have hat : 1 ≤ l.length := by subst hlw; simp
  have h3' : ¬ (3 : Int) ≤ ((⟨l.toArray⟩ : ByteArray).size : Int) := by rw [hsz, hlw]; omega
  have hsv : sval l = if (cutS l).1 = true then -((ofD 10 (dsL (cutS l).2) : Nat) : Int) else ((ofD 10 (dsL (cutS l).2) : Nat) : Int) := rfl
  rw [hneg] at hsv
  rw [if_pos rfl] at hsv
  have HT := hid hT
  have G : Hid (Below w.heap.size w w) := Below.refl _ _
  by_cases hk : Takes l
  · skip
    have HW : Hid (∀ w, Calls Tryd.prog 14 #[.string ⟨l.toArray⟩, .int .i64 1] w fun e w' => ∃ r, e = .returned (.tuple #[r, .bool true]) ∧ Zm w.heap.size w' r ((ofD 10 (dsL (cutS l).2) : Nat) : Int) (l.length + 1) ∧ Below w.heap.size w w') := fun w => wr_ok (t := 1) hat hl hdr hk
    have HR : Hid (∀ w, Sg w → Calls Tryd.prog 7 #[.string ⟨l.toArray⟩] w fun e w' => ∃ r, e = .returned (.tuple #[r, .int .i64 0]) ∧ Zm 0 w' r (sval l) 35184372088832 ∧ Below w.heap.size w w') := fun w h => rd_ok h hl hk
    rw [hsv] at HR
    generalize ((ofD 10 (dsL (cutS l).2) : Nat) : Int) = V at *
    clear hk hsv hdr hneg hT hat
    generalize (⟨l.toArray⟩ : ByteArray) = s at *
    generalize l.length = n at *
    (try clear hlw)
    go_enter Tryd.func5, Tryd.ntmps5
    go_wp2_with fail
    refine (HW.out w).mono ?_
    rintro e w1 ⟨r0, rfl, m0, b⟩
    obtain ⟨nv, xv, adv, qv, rfl, -, -, -, -, -⟩ := id m0
    replace HT := hid (HT.out.now b)
    replace G := hid (below_step G.out b)
    have lz2 := (show Below _ _ _ from b).size
    have Zv := hid m0
    clear b m0
    obtain ⟨V3, hW⟩ : ∃ V3, w1.alloc (duo (.bool nv) (.slice adv xv.length qv)) = V3 := ⟨_, rfl⟩
    obtain ⟨kW, sz3⟩ := alloc1 w1 (duo (.bool nv) (.slice adv xv.length qv))
    rw [hW] at kW sz3
    replace Zv := hid (Zv.out.now kW)
    replace HT := hid (HT.out.now kW)
    replace G := hid (below_step G.out kW)
    have lz4 := (show Below _ _ _ from kW).size
    have Pv : Hid (Duo V3 (w1.heap.size) (.bool nv) (.slice adv xv.length qv)) := by unfold Hid; rw [← hW]; exact duo_at (by simp)
    clear kW
    have EW := hid hW
    clear hW
    go_wp2_with fail
    rw [EW.out]
    clear EW
    refine (HR.out _ HT.out).mono ?_
    rintro e w5 ⟨r0, rfl, m0, b⟩
    obtain ⟨nx, xx, adx, qx, rfl, -, -, -, -, -⟩ := id m0
    replace Zv := hid (Zv.out.now b)
    replace Pv := hid (Pv.out.step b)
    replace HT := hid (HT.out.now b)
    replace G := hid (below_step G.out b)
    have lz6 := (show Below _ _ _ from b).size
    have Zx := hid m0
    clear b m0
    clear HW HR HT
    obtain ⟨V7, hW⟩ : ∃ V7, w5.alloc (duo (.bool nx) (.slice adx xx.length qx)) = V7 := ⟨_, rfl⟩
    obtain ⟨kW, sz7⟩ := alloc1 w5 (duo (.bool nx) (.slice adx xx.length qx))
    rw [hW] at kW sz7
    replace Zv := hid (Zv.out.now kW)
    replace Zx := hid (Zx.out.now kW)
    replace Pv := hid (Pv.out.step kW)
    replace G := hid (below_step G.out kW)
    have lz8 := (show Below _ _ _ from kW).size
    have Px : Hid (Duo V7 (w5.heap.size) (.bool nx) (.slice adx xx.length qx)) := by unfold Hid; rw [← hW]; exact duo_at (by simp)
    clear kW
    have q0 : ((0 : Int) == 0) = true := rfl
    have cv0 := Pv.out.c0
    have cv1 := Pv.out.c1
    rw [← hW] at cv0 cv1
    have EW := hid hW
    clear hW
    go_wp2_with fail
    rw [EW.out]
    clear EW
    clear cv0 cv1
    refine (neg_z Zv.out.zi).mono ?_
    rintro e w9 ⟨r0, rfl, m0, b⟩
    obtain ⟨nu, xu, adu, qu, rfl, -, -, -, -, -⟩ := id m0
    replace Zv := hid (Zv.out.now b)
    replace Zx := hid (Zx.out.now b)
    replace Pv := hid (Pv.out.step b)
    replace Px := hid (Px.out.step b)
    replace G := hid (below_step G.out b)
    have lz10 := (show Below _ _ _ from b).size
    have Zu := hid m0
    clear b m0
    have cv0 := Pv.out.c0
    have cv1 := Pv.out.c1
    have fv0 := Pv.out.fz 0
    have fv1 := Pv.out.fz 1
    obtain ⟨V11, hW⟩ : ∃ V11, (w9.setCell ⟨w1.heap.size, 0, none⟩ (.bool nu)).setCell ⟨w1.heap.size, 1, none⟩ (.slice adu xu.length qu) = V11 := ⟨_, rfl⟩
    replace Zv := hid ((Zv.out).box (Pv.out) (.bool nu) (.slice adu xu.length qu))
    replace Zx := hid ((Zx.out).box (Pv.out) (.bool nu) (.slice adu xu.length qu))
    replace Zu := hid ((Zu.out).box (Pv.out) (.bool nu) (.slice adu xu.length qu))
    replace Pv := hid ((Pv.out).set (.bool nu) (.slice adu xu.length qu))
    replace Px := hid ((Px.out).box (b' := w1.heap.size) (by omega) (.bool nu) (.slice adu xu.length qu))
    replace G : Hid (Below w.heap.size w (((w9.setCell ⟨w1.heap.size, 0, none⟩ (.bool nu)).setCell ⟨w1.heap.size, 1, none⟩ (.slice adu xu.length qu)))) := bset (bset (G.out) (by omega)) (by omega)
    have sz11 : V11.heap.size = w9.heap.size := by rw [← hW]; simp
    rw [hW] at Zv Zx Zu Pv Px G
    have cx0 := Px.out.c0
    have cx1 := Px.out.c1
    have cv0 := Pv.out.c0
    have cv1 := Pv.out.c1
    rw [← hW] at cx0 cx1 cv0 cv1
    have EW := hid hW
    clear hW
    go_wp2_with fail
    rw [EW.out]
    clear EW
    clear cx0 cx1 cv0 cv1
    refine (alike_yes Zx.out Zu.out rfl).mono ?_
    rintro e w12 ⟨rfl, b⟩
    replace Zv := hid (Zv.out.now b)
    replace Zx := hid (Zx.out.now b)
    replace Zu := hid (Zu.out.now b)
    replace Pv := hid (Pv.out.step b)
    replace Px := hid (Px.out.step b)
    replace G := hid (below_step G.out b)
    have lz13 := (show Below _ _ _ from b).size
    clear b 
    go_wp2
    go_ret
    exact ⟨rfl, G.out⟩
  · skip
    have HW : Hid (∀ w, Calls Tryd.prog 14 #[.string ⟨l.toArray⟩, .int .i64 1] w fun e w' => ∃ r, e = .returned (.tuple #[r, .bool false]) ∧ (∃ z k, Zm w.heap.size w' r z k) ∧ Below w.heap.size w w') := fun w => wr_no (t := 1) hat hl hdr hk
    have HR : Hid (∀ w, Sg w → Calls Tryd.prog 7 #[.string ⟨l.toArray⟩] w fun e w' => e = .returned (.tuple #[.agg #[.bool false, .slice none 0 0], .int .i64 7]) ∧ Below w.heap.size w w') := fun w h => rd_no h hl hk
    clear hk hsv hdr hneg hT hat
    generalize (⟨l.toArray⟩ : ByteArray) = s at *
    generalize l.length = n at *
    (try clear hlw)
    go_enter Tryd.func5, Tryd.ntmps5
    go_wp2_with fail
    refine (HW.out w).mono ?_
    rintro e w1 ⟨r0, rfl, ⟨zv, kv, m0⟩, b⟩
    obtain ⟨nv, xv, adv, qv, rfl, -, -, -, -, -⟩ := id m0
    replace HT := hid (HT.out.now b)
    replace G := hid (below_step G.out b)
    have lz2 := (show Below _ _ _ from b).size
    have Zv := hid m0
    clear b m0
    obtain ⟨V3, hW⟩ : ∃ V3, w1.alloc (duo (.bool nv) (.slice adv xv.length qv)) = V3 := ⟨_, rfl⟩
    obtain ⟨kW, sz3⟩ := alloc1 w1 (duo (.bool nv) (.slice adv xv.length qv))
    rw [hW] at kW sz3
    replace Zv := hid (Zv.out.now kW)
    replace HT := hid (HT.out.now kW)
    replace G := hid (below_step G.out kW)
    have lz4 := (show Below _ _ _ from kW).size
    have Pv : Hid (Duo V3 (w1.heap.size) (.bool nv) (.slice adv xv.length qv)) := by unfold Hid; rw [← hW]; exact duo_at (by simp)
    clear kW
    have EW := hid hW
    clear hW
    go_wp2_with fail
    rw [EW.out]
    clear EW
    refine (HR.out _ HT.out).mono ?_
    rintro e w5 ⟨rfl, b⟩
    replace Zv := hid (Zv.out.now b)
    replace Pv := hid (Pv.out.step b)
    replace HT := hid (HT.out.now b)
    replace G := hid (below_step G.out b)
    have lz6 := (show Below _ _ _ from b).size
    clear b 
    clear HW HR HT
    have q7 : ((7 : Int) == 7) = true := rfl
    have q0 : ((0 : Int) == 0) = true := rfl
    obtain ⟨VX, hW⟩ : ∃ VX, w5.alloc zbox = VX := ⟨_, rfl⟩
    have kx : Below w5.heap.size w5 VX := by rw [← hW]; exact (Below.refl _ _).alloc (Nat.le_refl _) _
    have px : Duo VX w5.heap.size (.bool false) (.slice none 0 0) := by rw [← hW]; exact duo_at rfl
    have G2 := hid (below_step G.out kx)
    have cx0 := px.c0
    have cx1 := px.c1
    rw [← hW] at cx0 cx1
    have EW := hid hW
    clear hW kx px
    go_wp2
    rw [EW.out]
    go_ret
    exact ⟨rfl, G2.out⟩

set_option maxHeartbeats 6400000 in
set_option maxRecDepth 100000 in
theorem reads_minus3 {w : World} {r : List UInt8} (h3 : 3 ≤ (45 :: r).length) (hT : Sg w) (hl : (45 :: r).length ≤ 1000000000) :
    Calls Tryd.prog 5 #[.string ⟨(45 :: r).toArray⟩] w fun e w' => e = .returned (.bool true) ∧ Below w.heap.size w w' := by
  obtain ⟨l, hlw⟩ : ∃ l, l = 45 :: r := ⟨_, rfl⟩
  rw [← hlw] at hl ⊢
  have hsz : (⟨l.toArray⟩ : ByteArray).size = l.length := mk_size l
  have h0 : 0 < (⟨l.toArray⟩ : ByteArray).size := by rw [hsz, hlw]; simp
  have hix : (((⟨l.toArray⟩ : ByteArray)[0]'h0).toNat : Int) = 45 := by subst hlw; rfl
  have h0' : (0 : Int) < ((⟨l.toArray⟩ : ByteArray).size : Int) := by omega
  have q43 : ((45 : Int) == 43) = false := rfl
  have q45 : ((45 : Int) == 45) = true := rfl
  have hneg : (cutS l).1 = true := by subst hlw; rfl
  have hdr : l.drop 1 = (cutS l).2 := by subst hlw; rfl
  have hat : 1 ≤ l.length := by subst hlw; simp
  have h3' : (3 : Int) ≤ ((⟨l.toArray⟩ : ByteArray).size : Int) := by rw [hsz, hlw]; omega
  obtain ⟨u, hu⟩ : ∃ u, u = (⟨l.toArray⟩ : ByteArray).extract 0 3 := ⟨_, rfl⟩
  have sl3 : ∀ w, (Instr.slice 9 (.string ⟨l.toArray⟩) none (some (.int .i64 3)) none).run Tryd.prog w = .ok (.string u) w := fun w => by rw [hu]; exact str_to w _ (by omega)
  have hul := long_yes u l (by omega) hu
  have quL : (u.toList == [226, 136, 146]) = false := by rw [hul, hlw]; simp
  clear hu hul
  have hsv : sval l = if (cutS l).1 = true then -((ofD 10 (dsL (cutS l).2) : Nat) : Int) else ((ofD 10 (dsL (cutS l).2) : Nat) : Int) := rfl
  rw [hneg] at hsv
  rw [if_pos rfl] at hsv
  have HT := hid hT
  have G : Hid (Below w.heap.size w w) := Below.refl _ _
  by_cases hk : Takes l
  · skip
    have HW : Hid (∀ w, Calls Tryd.prog 14 #[.string ⟨l.toArray⟩, .int .i64 1] w fun e w' => ∃ r, e = .returned (.tuple #[r, .bool true]) ∧ Zm w.heap.size w' r ((ofD 10 (dsL (cutS l).2) : Nat) : Int) (l.length + 1) ∧ Below w.heap.size w w') := fun w => wr_ok (t := 1) hat hl hdr hk
    have HR : Hid (∀ w, Sg w → Calls Tryd.prog 7 #[.string ⟨l.toArray⟩] w fun e w' => ∃ r, e = .returned (.tuple #[r, .int .i64 0]) ∧ Zm 0 w' r (sval l) 35184372088832 ∧ Below w.heap.size w w') := fun w h => rd_ok h hl hk
    rw [hsv] at HR
    generalize ((ofD 10 (dsL (cutS l).2) : Nat) : Int) = V at *
    clear hk hsv hdr hneg hT hat
    generalize (⟨l.toArray⟩ : ByteArray) = s at *
    generalize l.length = n at *
    (try clear hlw)
    go_enter Tryd.func5, Tryd.ntmps5
    go_wp2_with fail
    refine (HW.out w).mono ?_
    rintro e w1 ⟨r0, rfl, m0, b⟩
    obtain ⟨nv, xv, adv, qv, rfl, -, -, -, -, -⟩ := id m0
    replace HT := hid (HT.out.now b)
    replace G := hid (below_step G.out b)
    have lz2 := (show Below _ _ _ from b).size
    have Zv := hid m0
    clear b m0
    obtain ⟨V3, hW⟩ : ∃ V3, w1.alloc (duo (.bool nv) (.slice adv xv.length qv)) = V3 := ⟨_, rfl⟩
    obtain ⟨kW, sz3⟩ := alloc1 w1 (duo (.bool nv) (.slice adv xv.length qv))
    rw [hW] at kW sz3
    replace Zv := hid (Zv.out.now kW)
    replace HT := hid (HT.out.now kW)
    replace G := hid (below_step G.out kW)
    have lz4 := (show Below _ _ _ from kW).size
    have Pv : Hid (Duo V3 (w1.heap.size) (.bool nv) (.slice adv xv.length qv)) := by unfold Hid; rw [← hW]; exact duo_at (by simp)
    clear kW
    have EW := hid hW
    clear hW
    go_wp2_with fail
    rw [EW.out]
    clear EW
    refine (HR.out _ HT.out).mono ?_
    rintro e w5 ⟨r0, rfl, m0, b⟩
    obtain ⟨nx, xx, adx, qx, rfl, -, -, -, -, -⟩ := id m0
    replace Zv := hid (Zv.out.now b)
    replace Pv := hid (Pv.out.step b)
    replace HT := hid (HT.out.now b)
    replace G := hid (below_step G.out b)
    have lz6 := (show Below _ _ _ from b).size
    have Zx := hid m0
    clear b m0
    clear HW HR HT
    obtain ⟨V7, hW⟩ : ∃ V7, w5.alloc (duo (.bool nx) (.slice adx xx.length qx)) = V7 := ⟨_, rfl⟩
    obtain ⟨kW, sz7⟩ := alloc1 w5 (duo (.bool nx) (.slice adx xx.length qx))
    rw [hW] at kW sz7
    replace Zv := hid (Zv.out.now kW)
    replace Zx := hid (Zx.out.now kW)
    replace Pv := hid (Pv.out.step kW)
    replace G := hid (below_step G.out kW)
    have lz8 := (show Below _ _ _ from kW).size
    have Px : Hid (Duo V7 (w5.heap.size) (.bool nx) (.slice adx xx.length qx)) := by unfold Hid; rw [← hW]; exact duo_at (by simp)
    clear kW
    have q0 : ((0 : Int) == 0) = true := rfl
    have cv0 := Pv.out.c0
    have cv1 := Pv.out.c1
    rw [← hW] at cv0 cv1
    have EW := hid hW
    clear hW
    go_wp2_with fail
    rw [EW.out]
    clear EW
    clear cv0 cv1
    refine (neg_z Zv.out.zi).mono ?_
    rintro e w9 ⟨r0, rfl, m0, b⟩
    obtain ⟨nu, xu, adu, qu, rfl, -, -, -, -, -⟩ := id m0
    replace Zv := hid (Zv.out.now b)
    replace Zx := hid (Zx.out.now b)
    replace Pv := hid (Pv.out.step b)
    replace Px := hid (Px.out.step b)
    replace G := hid (below_step G.out b)
    have lz10 := (show Below _ _ _ from b).size
    have Zu := hid m0
    clear b m0
    have cv0 := Pv.out.c0
    have cv1 := Pv.out.c1
    have fv0 := Pv.out.fz 0
    have fv1 := Pv.out.fz 1
    obtain ⟨V11, hW⟩ : ∃ V11, (w9.setCell ⟨w1.heap.size, 0, none⟩ (.bool nu)).setCell ⟨w1.heap.size, 1, none⟩ (.slice adu xu.length qu) = V11 := ⟨_, rfl⟩
    replace Zv := hid ((Zv.out).box (Pv.out) (.bool nu) (.slice adu xu.length qu))
    replace Zx := hid ((Zx.out).box (Pv.out) (.bool nu) (.slice adu xu.length qu))
    replace Zu := hid ((Zu.out).box (Pv.out) (.bool nu) (.slice adu xu.length qu))
    replace Pv := hid ((Pv.out).set (.bool nu) (.slice adu xu.length qu))
    replace Px := hid ((Px.out).box (b' := w1.heap.size) (by omega) (.bool nu) (.slice adu xu.length qu))
    replace G : Hid (Below w.heap.size w (((w9.setCell ⟨w1.heap.size, 0, none⟩ (.bool nu)).setCell ⟨w1.heap.size, 1, none⟩ (.slice adu xu.length qu)))) := bset (bset (G.out) (by omega)) (by omega)
    have sz11 : V11.heap.size = w9.heap.size := by rw [← hW]; simp
    rw [hW] at Zv Zx Zu Pv Px G
    have cx0 := Px.out.c0
    have cx1 := Px.out.c1
    have cv0 := Pv.out.c0
    have cv1 := Pv.out.c1
    rw [← hW] at cx0 cx1 cv0 cv1
    have EW := hid hW
    clear hW
    go_wp2_with fail
    rw [EW.out]
    clear EW
    clear cx0 cx1 cv0 cv1
    refine (alike_yes Zx.out Zu.out rfl).mono ?_
    rintro e w12 ⟨rfl, b⟩
    replace Zv := hid (Zv.out.now b)
    replace Zx := hid (Zx.out.now b)
    replace Zu := hid (Zu.out.now b)
    replace Pv := hid (Pv.out.step b)
    replace Px := hid (Px.out.step b)
    replace G := hid (below_step G.out b)
    have lz13 := (show Below _ _ _ from b).size
    clear b 
    go_wp2
    go_ret
    exact ⟨rfl, G.out⟩
  · skip
    have HW : Hid (∀ w, Calls Tryd.prog 14 #[.string ⟨l.toArray⟩, .int .i64 1] w fun e w' => ∃ r, e = .returned (.tuple #[r, .bool false]) ∧ (∃ z k, Zm w.heap.size w' r z k) ∧ Below w.heap.size w w') := fun w => wr_no (t := 1) hat hl hdr hk
    have HR : Hid (∀ w, Sg w → Calls Tryd.prog 7 #[.string ⟨l.toArray⟩] w fun e w' => e = .returned (.tuple #[.agg #[.bool false, .slice none 0 0], .int .i64 7]) ∧ Below w.heap.size w w') := fun w h => rd_no h hl hk
    clear hk hsv hdr hneg hT hat
    generalize (⟨l.toArray⟩ : ByteArray) = s at *
    generalize l.length = n at *
    (try clear hlw)
    go_enter Tryd.func5, Tryd.ntmps5
    go_wp2_with fail
    refine (HW.out w).mono ?_
    rintro e w1 ⟨r0, rfl, ⟨zv, kv, m0⟩, b⟩
    obtain ⟨nv, xv, adv, qv, rfl, -, -, -, -, -⟩ := id m0
    replace HT := hid (HT.out.now b)
    replace G := hid (below_step G.out b)
    have lz2 := (show Below _ _ _ from b).size
    have Zv := hid m0
    clear b m0
    obtain ⟨V3, hW⟩ : ∃ V3, w1.alloc (duo (.bool nv) (.slice adv xv.length qv)) = V3 := ⟨_, rfl⟩
    obtain ⟨kW, sz3⟩ := alloc1 w1 (duo (.bool nv) (.slice adv xv.length qv))
    rw [hW] at kW sz3
    replace Zv := hid (Zv.out.now kW)
    replace HT := hid (HT.out.now kW)
    replace G := hid (below_step G.out kW)
    have lz4 := (show Below _ _ _ from kW).size
    have Pv : Hid (Duo V3 (w1.heap.size) (.bool nv) (.slice adv xv.length qv)) := by unfold Hid; rw [← hW]; exact duo_at (by simp)
    clear kW
    have EW := hid hW
    clear hW
    go_wp2_with fail
    rw [EW.out]
    clear EW
    refine (HR.out _ HT.out).mono ?_
    rintro e w5 ⟨rfl, b⟩
    replace Zv := hid (Zv.out.now b)
    replace Pv := hid (Pv.out.step b)
    replace HT := hid (HT.out.now b)
    replace G := hid (below_step G.out b)
    have lz6 := (show Below _ _ _ from b).size
    clear b 
    clear HW HR HT
    have q7 : ((7 : Int) == 7) = true := rfl
    have q0 : ((0 : Int) == 0) = true := rfl
    obtain ⟨VX, hW⟩ : ∃ VX, w5.alloc zbox = VX := ⟨_, rfl⟩
    have kx : Below w5.heap.size w5 VX := by rw [← hW]; exact (Below.refl _ _).alloc (Nat.le_refl _) _
    have px : Duo VX w5.heap.size (.bool false) (.slice none 0 0) := by rw [← hW]; exact duo_at rfl
    have G2 := hid (below_step G.out kx)
    have cx0 := px.c0
    have cx1 := px.c1
    rw [← hW] at cx0 cx1
    have EW := hid hW
    clear hW kx px
    go_wp2
    rw [EW.out]
    go_ret
    exact ⟨rfl, G2.out⟩

set_option maxHeartbeats 6400000 in
set_option maxRecDepth 100000 in
theorem reads_long {w : World} {r : List UInt8} (hT : Sg w) (hl : (226 :: 136 :: 146 :: r).length ≤ 1000000000) :
    Calls Tryd.prog 5 #[.string ⟨(226 :: 136 :: 146 :: r).toArray⟩] w fun e w' => e = .returned (.bool true) ∧ Below w.heap.size w w' := by
  obtain ⟨l, hlw⟩ : ∃ l, l = 226 :: 136 :: 146 :: r := ⟨_, rfl⟩
  rw [← hlw] at hl ⊢
  have hsz : (⟨l.toArray⟩ : ByteArray).size = l.length := mk_size l
  have h0 : 0 < (⟨l.toArray⟩ : ByteArray).size := by rw [hsz, hlw]; simp
  have hix : (((⟨l.toArray⟩ : ByteArray)[0]'h0).toNat : Int) = 226 := by subst hlw; rfl
  have h0' : (0 : Int) < ((⟨l.toArray⟩ : ByteArray).size : Int) := by omega
  have q43 : ((226 : Int) == 43) = false := rfl
  have q45 : ((226 : Int) == 45) = false := rfl
  have hneg : (cutS l).1 = true := by subst hlw; rfl
  have hdr : l.drop 3 = (cutS l).2 := by subst hlw; rfl
  have hat : 3 ≤ l.length := by subst hlw; simp
  have h3' : (3 : Int) ≤ ((⟨l.toArray⟩ : ByteArray).size : Int) := by rw [hsz]; omega
  obtain ⟨u, hu⟩ : ∃ u, u = (⟨l.toArray⟩ : ByteArray).extract 0 3 := ⟨_, rfl⟩
  have sl3 : ∀ w, (Instr.slice 9 (.string ⟨l.toArray⟩) none (some (.int .i64 3)) none).run Tryd.prog w = .ok (.string u) w := fun w => by rw [hu]; exact str_to w _ (by omega)
  have hul := long_yes u l (by omega) hu
  have quL : (u.toList == [226, 136, 146]) = true := by rw [hul, hlw]; rfl
  clear hu hul
  have hsv : sval l = if (cutS l).1 = true then -((ofD 10 (dsL (cutS l).2) : Nat) : Int) else ((ofD 10 (dsL (cutS l).2) : Nat) : Int) := rfl
  rw [hneg] at hsv
  rw [if_pos rfl] at hsv
  have HT := hid hT
  have G : Hid (Below w.heap.size w w) := Below.refl _ _
  by_cases hk : Takes l
  · skip
    have HW : Hid (∀ w, Calls Tryd.prog 14 #[.string ⟨l.toArray⟩, .int .i64 3] w fun e w' => ∃ r, e = .returned (.tuple #[r, .bool true]) ∧ Zm w.heap.size w' r ((ofD 10 (dsL (cutS l).2) : Nat) : Int) (l.length + 1) ∧ Below w.heap.size w w') := fun w => wr_ok (t := 3) hat hl hdr hk
    have HR : Hid (∀ w, Sg w → Calls Tryd.prog 7 #[.string ⟨l.toArray⟩] w fun e w' => ∃ r, e = .returned (.tuple #[r, .int .i64 0]) ∧ Zm 0 w' r (sval l) 35184372088832 ∧ Below w.heap.size w w') := fun w h => rd_ok h hl hk
    rw [hsv] at HR
    generalize ((ofD 10 (dsL (cutS l).2) : Nat) : Int) = V at *
    clear hk hsv hdr hneg hT hat
    generalize (⟨l.toArray⟩ : ByteArray) = s at *
    generalize l.length = n at *
    (try clear hlw)
    go_enter Tryd.func5, Tryd.ntmps5
    go_wp2_with fail
    refine (HW.out w).mono ?_
    rintro e w1 ⟨r0, rfl, m0, b⟩
    obtain ⟨nv, xv, adv, qv, rfl, -, -, -, -, -⟩ := id m0
    replace HT := hid (HT.out.now b)
    replace G := hid (below_step G.out b)
    have lz2 := (show Below _ _ _ from b).size
    have Zv := hid m0
    clear b m0
    obtain ⟨V3, hW⟩ : ∃ V3, w1.alloc (duo (.bool nv) (.slice adv xv.length qv)) = V3 := ⟨_, rfl⟩
    obtain ⟨kW, sz3⟩ := alloc1 w1 (duo (.bool nv) (.slice adv xv.length qv))
    rw [hW] at kW sz3
    replace Zv := hid (Zv.out.now kW)
    replace HT := hid (HT.out.now kW)
    replace G := hid (below_step G.out kW)
    have lz4 := (show Below _ _ _ from kW).size
    have Pv : Hid (Duo V3 (w1.heap.size) (.bool nv) (.slice adv xv.length qv)) := by unfold Hid; rw [← hW]; exact duo_at (by simp)
    clear kW
    have EW := hid hW
    clear hW
    go_wp2_with fail
    rw [EW.out]
    clear EW
    refine (HR.out _ HT.out).mono ?_
    rintro e w5 ⟨r0, rfl, m0, b⟩
    obtain ⟨nx, xx, adx, qx, rfl, -, -, -, -, -⟩ := id m0
    replace Zv := hid (Zv.out.now b)
    replace Pv := hid (Pv.out.step b)
    replace HT := hid (HT.out.now b)
    replace G := hid (below_step G.out b)
    have lz6 := (show Below _ _ _ from b).size
    have Zx := hid m0
    clear b m0
    clear HW HR HT
    obtain ⟨V7, hW⟩ : ∃ V7, w5.alloc (duo (.bool nx) (.slice adx xx.length qx)) = V7 := ⟨_, rfl⟩
    obtain ⟨kW, sz7⟩ := alloc1 w5 (duo (.bool nx) (.slice adx xx.length qx))
    rw [hW] at kW sz7
    replace Zv := hid (Zv.out.now kW)
    replace Zx := hid (Zx.out.now kW)
    replace Pv := hid (Pv.out.step kW)
    replace G := hid (below_step G.out kW)
    have lz8 := (show Below _ _ _ from kW).size
    have Px : Hid (Duo V7 (w5.heap.size) (.bool nx) (.slice adx xx.length qx)) := by unfold Hid; rw [← hW]; exact duo_at (by simp)
    clear kW
    have q0 : ((0 : Int) == 0) = true := rfl
    have cv0 := Pv.out.c0
    have cv1 := Pv.out.c1
    rw [← hW] at cv0 cv1
    have EW := hid hW
    clear hW
    go_wp2_with fail
    rw [EW.out]
    clear EW
    clear cv0 cv1
    refine (neg_z Zv.out.zi).mono ?_
    rintro e w9 ⟨r0, rfl, m0, b⟩
    obtain ⟨nu, xu, adu, qu, rfl, -, -, -, -, -⟩ := id m0
    replace Zv := hid (Zv.out.now b)
    replace Zx := hid (Zx.out.now b)
    replace Pv := hid (Pv.out.step b)
    replace Px := hid (Px.out.step b)
    replace G := hid (below_step G.out b)
    have lz10 := (show Below _ _ _ from b).size
    have Zu := hid m0
    clear b m0
    have cv0 := Pv.out.c0
    have cv1 := Pv.out.c1
    have fv0 := Pv.out.fz 0
    have fv1 := Pv.out.fz 1
    obtain ⟨V11, hW⟩ : ∃ V11, (w9.setCell ⟨w1.heap.size, 0, none⟩ (.bool nu)).setCell ⟨w1.heap.size, 1, none⟩ (.slice adu xu.length qu) = V11 := ⟨_, rfl⟩
    replace Zv := hid ((Zv.out).box (Pv.out) (.bool nu) (.slice adu xu.length qu))
    replace Zx := hid ((Zx.out).box (Pv.out) (.bool nu) (.slice adu xu.length qu))
    replace Zu := hid ((Zu.out).box (Pv.out) (.bool nu) (.slice adu xu.length qu))
    replace Pv := hid ((Pv.out).set (.bool nu) (.slice adu xu.length qu))
    replace Px := hid ((Px.out).box (b' := w1.heap.size) (by omega) (.bool nu) (.slice adu xu.length qu))
    replace G : Hid (Below w.heap.size w (((w9.setCell ⟨w1.heap.size, 0, none⟩ (.bool nu)).setCell ⟨w1.heap.size, 1, none⟩ (.slice adu xu.length qu)))) := bset (bset (G.out) (by omega)) (by omega)
    have sz11 : V11.heap.size = w9.heap.size := by rw [← hW]; simp
    rw [hW] at Zv Zx Zu Pv Px G
    have cx0 := Px.out.c0
    have cx1 := Px.out.c1
    have cv0 := Pv.out.c0
    have cv1 := Pv.out.c1
    rw [← hW] at cx0 cx1 cv0 cv1
    have EW := hid hW
    clear hW
    go_wp2_with fail
    rw [EW.out]
    clear EW
    clear cx0 cx1 cv0 cv1
    refine (alike_yes Zx.out Zu.out rfl).mono ?_
    rintro e w12 ⟨rfl, b⟩
    replace Zv := hid (Zv.out.now b)
    replace Zx := hid (Zx.out.now b)
    replace Zu := hid (Zu.out.now b)
    replace Pv := hid (Pv.out.step b)
    replace Px := hid (Px.out.step b)
    replace G := hid (below_step G.out b)
    have lz13 := (show Below _ _ _ from b).size
    clear b 
    go_wp2
    go_ret
    exact ⟨rfl, G.out⟩
  · skip
    have HW : Hid (∀ w, Calls Tryd.prog 14 #[.string ⟨l.toArray⟩, .int .i64 3] w fun e w' => ∃ r, e = .returned (.tuple #[r, .bool false]) ∧ (∃ z k, Zm w.heap.size w' r z k) ∧ Below w.heap.size w w') := fun w => wr_no (t := 3) hat hl hdr hk
    have HR : Hid (∀ w, Sg w → Calls Tryd.prog 7 #[.string ⟨l.toArray⟩] w fun e w' => e = .returned (.tuple #[.agg #[.bool false, .slice none 0 0], .int .i64 7]) ∧ Below w.heap.size w w') := fun w h => rd_no h hl hk
    clear hk hsv hdr hneg hT hat
    generalize (⟨l.toArray⟩ : ByteArray) = s at *
    generalize l.length = n at *
    (try clear hlw)
    go_enter Tryd.func5, Tryd.ntmps5
    go_wp2_with fail
    refine (HW.out w).mono ?_
    rintro e w1 ⟨r0, rfl, ⟨zv, kv, m0⟩, b⟩
    obtain ⟨nv, xv, adv, qv, rfl, -, -, -, -, -⟩ := id m0
    replace HT := hid (HT.out.now b)
    replace G := hid (below_step G.out b)
    have lz2 := (show Below _ _ _ from b).size
    have Zv := hid m0
    clear b m0
    obtain ⟨V3, hW⟩ : ∃ V3, w1.alloc (duo (.bool nv) (.slice adv xv.length qv)) = V3 := ⟨_, rfl⟩
    obtain ⟨kW, sz3⟩ := alloc1 w1 (duo (.bool nv) (.slice adv xv.length qv))
    rw [hW] at kW sz3
    replace Zv := hid (Zv.out.now kW)
    replace HT := hid (HT.out.now kW)
    replace G := hid (below_step G.out kW)
    have lz4 := (show Below _ _ _ from kW).size
    have Pv : Hid (Duo V3 (w1.heap.size) (.bool nv) (.slice adv xv.length qv)) := by unfold Hid; rw [← hW]; exact duo_at (by simp)
    clear kW
    have EW := hid hW
    clear hW
    go_wp2_with fail
    rw [EW.out]
    clear EW
    refine (HR.out _ HT.out).mono ?_
    rintro e w5 ⟨rfl, b⟩
    replace Zv := hid (Zv.out.now b)
    replace Pv := hid (Pv.out.step b)
    replace HT := hid (HT.out.now b)
    replace G := hid (below_step G.out b)
    have lz6 := (show Below _ _ _ from b).size
    clear b 
    clear HW HR HT
    have q7 : ((7 : Int) == 7) = true := rfl
    have q0 : ((0 : Int) == 0) = true := rfl
    obtain ⟨VX, hW⟩ : ∃ VX, w5.alloc zbox = VX := ⟨_, rfl⟩
    have kx : Below w5.heap.size w5 VX := by rw [← hW]; exact (Below.refl _ _).alloc (Nat.le_refl _) _
    have px : Duo VX w5.heap.size (.bool false) (.slice none 0 0) := by rw [← hW]; exact duo_at rfl
    have G2 := hid (below_step G.out kx)
    have cx0 := px.c0
    have cx1 := px.c1
    rw [← hW] at cx0 cx1
    have EW := hid hW
    clear hW kx px
    go_wp2
    rw [EW.out]
    go_ret
    exact ⟨rfl, G2.out⟩

set_option maxHeartbeats 6400000 in
set_option maxRecDepth 100000 in
theorem reads_nil {w : World}  (hT : Sg w) (hl : (([] : List UInt8)).length ≤ 1000000000) :
    Calls Tryd.prog 5 #[.string ⟨(([] : List UInt8)).toArray⟩] w fun e w' => e = .returned (.bool true) ∧ Below w.heap.size w w' := by
  obtain ⟨l, hlw⟩ : ∃ l, l = [] := ⟨_, rfl⟩
  rw [← hlw] at hl ⊢
  have hsz : (⟨l.toArray⟩ : ByteArray).size = l.length := mk_size l
  have h0' : ¬ (0 : Int) < ((⟨l.toArray⟩ : ByteArray).size : Int) := by rw [hsz, hlw]; decide
  have h3' : ¬ (3 : Int) ≤ ((⟨l.toArray⟩ : ByteArray).size : Int) := by rw [hsz, hlw]; decide
  have hneg : (cutS l).1 = false := by subst hlw; rfl
  have hdr : l.drop 0 = (cutS l).2 := by subst hlw; rfl
  have hat : 0 ≤ l.length := Nat.zero_le _
  have hsv : sval l = if (cutS l).1 = true then -((ofD 10 (dsL (cutS l).2) : Nat) : Int) else ((ofD 10 (dsL (cutS l).2) : Nat) : Int) := rfl
  rw [hneg] at hsv
  rw [if_neg (by simp)] at hsv
  have HT := hid hT
  have G : Hid (Below w.heap.size w w) := Below.refl _ _
  by_cases hk : Takes l
  · skip
    have HW : Hid (∀ w, Calls Tryd.prog 14 #[.string ⟨l.toArray⟩, .int .i64 0] w fun e w' => ∃ r, e = .returned (.tuple #[r, .bool true]) ∧ Zm w.heap.size w' r ((ofD 10 (dsL (cutS l).2) : Nat) : Int) (l.length + 1) ∧ Below w.heap.size w w') := fun w => wr_ok (t := 0) hat hl hdr hk
    have HR : Hid (∀ w, Sg w → Calls Tryd.prog 7 #[.string ⟨l.toArray⟩] w fun e w' => ∃ r, e = .returned (.tuple #[r, .int .i64 0]) ∧ Zm 0 w' r (sval l) 35184372088832 ∧ Below w.heap.size w w') := fun w h => rd_ok h hl hk
    rw [hsv] at HR
    generalize ((ofD 10 (dsL (cutS l).2) : Nat) : Int) = V at *
    clear hk hsv hdr hneg hT hat
    generalize (⟨l.toArray⟩ : ByteArray) = s at *
    generalize l.length = n at *
    (try clear hlw)
    go_enter Tryd.func5, Tryd.ntmps5
    go_wp2_with fail
    refine (HW.out w).mono ?_
    rintro e w1 ⟨r0, rfl, m0, b⟩
    obtain ⟨nv, xv, adv, qv, rfl, -, -, -, -, -⟩ := id m0
    replace HT := hid (HT.out.now b)
    replace G := hid (below_step G.out b)
    have lz2 := (show Below _ _ _ from b).size
    have Zv := hid m0
    clear b m0
    obtain ⟨V3, hW⟩ : ∃ V3, w1.alloc (duo (.bool nv) (.slice adv xv.length qv)) = V3 := ⟨_, rfl⟩
    obtain ⟨kW, sz3⟩ := alloc1 w1 (duo (.bool nv) (.slice adv xv.length qv))
    rw [hW] at kW sz3
    replace Zv := hid (Zv.out.now kW)
    replace HT := hid (HT.out.now kW)
    replace G := hid (below_step G.out kW)
    have lz4 := (show Below _ _ _ from kW).size
    have Pv : Hid (Duo V3 (w1.heap.size) (.bool nv) (.slice adv xv.length qv)) := by unfold Hid; rw [← hW]; exact duo_at (by simp)
    clear kW
    have EW := hid hW
    clear hW
    go_wp2_with fail
    rw [EW.out]
    clear EW
    refine (HR.out _ HT.out).mono ?_
    rintro e w5 ⟨r0, rfl, m0, b⟩
    obtain ⟨nx, xx, adx, qx, rfl, -, -, -, -, -⟩ := id m0
    replace Zv := hid (Zv.out.now b)
    replace Pv := hid (Pv.out.step b)
    replace HT := hid (HT.out.now b)
    replace G := hid (below_step G.out b)
    have lz6 := (show Below _ _ _ from b).size
    have Zx := hid m0
    clear b m0
    clear HW HR HT
    obtain ⟨V7, hW⟩ : ∃ V7, w5.alloc (duo (.bool nx) (.slice adx xx.length qx)) = V7 := ⟨_, rfl⟩
    obtain ⟨kW, sz7⟩ := alloc1 w5 (duo (.bool nx) (.slice adx xx.length qx))
    rw [hW] at kW sz7
    replace Zv := hid (Zv.out.now kW)
    replace Zx := hid (Zx.out.now kW)
    replace Pv := hid (Pv.out.step kW)
    replace G := hid (below_step G.out kW)
    have lz8 := (show Below _ _ _ from kW).size
    have Px : Hid (Duo V7 (w5.heap.size) (.bool nx) (.slice adx xx.length qx)) := by unfold Hid; rw [← hW]; exact duo_at (by simp)
    clear kW
    have q0 : ((0 : Int) == 0) = true := rfl
    have cx0 := Px.out.c0
    have cx1 := Px.out.c1
    have cv0 := Pv.out.c0
    have cv1 := Pv.out.c1
    rw [← hW] at cx0 cx1 cv0 cv1
    have EW := hid hW
    clear hW
    go_wp2_with fail
    rw [EW.out]
    clear EW
    clear cx0 cx1 cv0 cv1
    refine (alike_yes Zx.out Zv.out rfl).mono ?_
    rintro e w9 ⟨rfl, b⟩
    replace Zv := hid (Zv.out.now b)
    replace Zx := hid (Zx.out.now b)
    replace Pv := hid (Pv.out.step b)
    replace Px := hid (Px.out.step b)
    replace G := hid (below_step G.out b)
    have lz10 := (show Below _ _ _ from b).size
    clear b 
    go_wp2
    go_ret
    exact ⟨rfl, G.out⟩
  · skip
    have HW : Hid (∀ w, Calls Tryd.prog 14 #[.string ⟨l.toArray⟩, .int .i64 0] w fun e w' => ∃ r, e = .returned (.tuple #[r, .bool false]) ∧ (∃ z k, Zm w.heap.size w' r z k) ∧ Below w.heap.size w w') := fun w => wr_no (t := 0) hat hl hdr hk
    have HR : Hid (∀ w, Sg w → Calls Tryd.prog 7 #[.string ⟨l.toArray⟩] w fun e w' => e = .returned (.tuple #[.agg #[.bool false, .slice none 0 0], .int .i64 7]) ∧ Below w.heap.size w w') := fun w h => rd_no h hl hk
    clear hk hsv hdr hneg hT hat
    generalize (⟨l.toArray⟩ : ByteArray) = s at *
    generalize l.length = n at *
    (try clear hlw)
    go_enter Tryd.func5, Tryd.ntmps5
    go_wp2_with fail
    refine (HW.out w).mono ?_
    rintro e w1 ⟨r0, rfl, ⟨zv, kv, m0⟩, b⟩
    obtain ⟨nv, xv, adv, qv, rfl, -, -, -, -, -⟩ := id m0
    replace HT := hid (HT.out.now b)
    replace G := hid (below_step G.out b)
    have lz2 := (show Below _ _ _ from b).size
    have Zv := hid m0
    clear b m0
    obtain ⟨V3, hW⟩ : ∃ V3, w1.alloc (duo (.bool nv) (.slice adv xv.length qv)) = V3 := ⟨_, rfl⟩
    obtain ⟨kW, sz3⟩ := alloc1 w1 (duo (.bool nv) (.slice adv xv.length qv))
    rw [hW] at kW sz3
    replace Zv := hid (Zv.out.now kW)
    replace HT := hid (HT.out.now kW)
    replace G := hid (below_step G.out kW)
    have lz4 := (show Below _ _ _ from kW).size
    have Pv : Hid (Duo V3 (w1.heap.size) (.bool nv) (.slice adv xv.length qv)) := by unfold Hid; rw [← hW]; exact duo_at (by simp)
    clear kW
    have EW := hid hW
    clear hW
    go_wp2_with fail
    rw [EW.out]
    clear EW
    refine (HR.out _ HT.out).mono ?_
    rintro e w5 ⟨rfl, b⟩
    replace Zv := hid (Zv.out.now b)
    replace Pv := hid (Pv.out.step b)
    replace HT := hid (HT.out.now b)
    replace G := hid (below_step G.out b)
    have lz6 := (show Below _ _ _ from b).size
    clear b 
    clear HW HR HT
    have q7 : ((7 : Int) == 7) = true := rfl
    have q0 : ((0 : Int) == 0) = true := rfl
    obtain ⟨VX, hW⟩ : ∃ VX, w5.alloc zbox = VX := ⟨_, rfl⟩
    have kx : Below w5.heap.size w5 VX := by rw [← hW]; exact (Below.refl _ _).alloc (Nat.le_refl _) _
    have px : Duo VX w5.heap.size (.bool false) (.slice none 0 0) := by rw [← hW]; exact duo_at rfl
    have G2 := hid (below_step G.out kx)
    have cx0 := px.c0
    have cx1 := px.c1
    rw [← hW] at cx0 cx1
    have EW := hid hW
    clear hW kx px
    go_wp2
    rw [EW.out]
    go_ret
    exact ⟨rfl, G2.out⟩

set_option maxHeartbeats 6400000 in
set_option maxRecDepth 100000 in
theorem reads_bare {w : World} {a : UInt8} {r : List UInt8} (h1 : a ≠ 43) (h2 : a ≠ 45) (h4 : (a :: r).take 3 ≠ [226, 136, 146]) (h3 : ¬ 3 ≤ (a :: r).length) (hT : Sg w) (hl : (a :: r).length ≤ 1000000000) :
    Calls Tryd.prog 5 #[.string ⟨(a :: r).toArray⟩] w fun e w' => e = .returned (.bool true) ∧ Below w.heap.size w w' := by
  obtain ⟨l, hlw⟩ : ∃ l, l = a :: r := ⟨_, rfl⟩
  rw [← hlw] at hl ⊢
  have hsz : (⟨l.toArray⟩ : ByteArray).size = l.length := mk_size l
  have h0 : 0 < (⟨l.toArray⟩ : ByteArray).size := by rw [hsz, hlw]; simp
  have hix : (((⟨l.toArray⟩ : ByteArray)[0]'h0).toNat : Int) = (a.toNat : Int) := by subst hlw; rfl
  have h0' : (0 : Int) < ((⟨l.toArray⟩ : ByteArray).size : Int) := by omega
  have q43 : ((a.toNat : Int) == 43) = false := by rw [beq_eq_false_iff_ne]; intro e; exact h1 (UInt8.toNat_inj.1 (by show a.toNat = 43; omega))
  have q45 : ((a.toNat : Int) == 45) = false := by rw [beq_eq_false_iff_ne]; intro e; exact h2 (UInt8.toNat_inj.1 (by show a.toNat = 45; omega))
  have hcs : cutS l = (false, l) := by
    unfold cutS
    rw [if_neg (by rw [hlw]; simpa using h1), if_neg (by rw [hlw]; simpa using h2), if_neg (by rw [hlw]; exact h4)]
  have hneg : (cutS l).1 = false := by rw [hcs]
  have hdr : l.drop 0 = (cutS l).2 := by rw [hcs]; rfl
  have hat : 0 ≤ l.length := Nat.zero_le _
  have h3' : ¬ (3 : Int) ≤ ((⟨l.toArray⟩ : ByteArray).size : Int) := by rw [hsz, hlw]; omega
  clear hcs
  have hsv : sval l = if (cutS l).1 = true then -((ofD 10 (dsL (cutS l).2) : Nat) : Int) else ((ofD 10 (dsL (cutS l).2) : Nat) : Int) := rfl
  rw [hneg] at hsv
  rw [if_neg (by simp)] at hsv
  have HT := hid hT
  have G : Hid (Below w.heap.size w w) := Below.refl _ _
  by_cases hk : Takes l
  · skip
    have HW : Hid (∀ w, Calls Tryd.prog 14 #[.string ⟨l.toArray⟩, .int .i64 0] w fun e w' => ∃ r, e = .returned (.tuple #[r, .bool true]) ∧ Zm w.heap.size w' r ((ofD 10 (dsL (cutS l).2) : Nat) : Int) (l.length + 1) ∧ Below w.heap.size w w') := fun w => wr_ok (t := 0) hat hl hdr hk
    have HR : Hid (∀ w, Sg w → Calls Tryd.prog 7 #[.string ⟨l.toArray⟩] w fun e w' => ∃ r, e = .returned (.tuple #[r, .int .i64 0]) ∧ Zm 0 w' r (sval l) 35184372088832 ∧ Below w.heap.size w w') := fun w h => rd_ok h hl hk
    rw [hsv] at HR
    generalize ((ofD 10 (dsL (cutS l).2) : Nat) : Int) = V at *
    clear hk hsv hdr hneg hT hat
    generalize (⟨l.toArray⟩ : ByteArray) = s at *
    generalize l.length = n at *
    (try clear hlw)
    go_enter Tryd.func5, Tryd.ntmps5
    go_wp2_with fail
    refine (HW.out w).mono ?_
    rintro e w1 ⟨r0, rfl, m0, b⟩
    obtain ⟨nv, xv, adv, qv, rfl, -, -, -, -, -⟩ := id m0
    replace HT := hid (HT.out.now b)
    replace G := hid (below_step G.out b)
    have lz2 := (show Below _ _ _ from b).size
    have Zv := hid m0
    clear b m0
    obtain ⟨V3, hW⟩ : ∃ V3, w1.alloc (duo (.bool nv) (.slice adv xv.length qv)) = V3 := ⟨_, rfl⟩
    obtain ⟨kW, sz3⟩ := alloc1 w1 (duo (.bool nv) (.slice adv xv.length qv))
    rw [hW] at kW sz3
    replace Zv := hid (Zv.out.now kW)
    replace HT := hid (HT.out.now kW)
    replace G := hid (below_step G.out kW)
    have lz4 := (show Below _ _ _ from kW).size
    have Pv : Hid (Duo V3 (w1.heap.size) (.bool nv) (.slice adv xv.length qv)) := by unfold Hid; rw [← hW]; exact duo_at (by simp)
    clear kW
    have EW := hid hW
    clear hW
    go_wp2_with fail
    rw [EW.out]
    clear EW
    refine (HR.out _ HT.out).mono ?_
    rintro e w5 ⟨r0, rfl, m0, b⟩
    obtain ⟨nx, xx, adx, qx, rfl, -, -, -, -, -⟩ := id m0
    replace Zv := hid (Zv.out.now b)
    replace Pv := hid (Pv.out.step b)
    replace HT := hid (HT.out.now b)
    replace G := hid (below_step G.out b)
    have lz6 := (show Below _ _ _ from b).size
    have Zx := hid m0
    clear b m0
    clear HW HR HT
    obtain ⟨V7, hW⟩ : ∃ V7, w5.alloc (duo (.bool nx) (.slice adx xx.length qx)) = V7 := ⟨_, rfl⟩
    obtain ⟨kW, sz7⟩ := alloc1 w5 (duo (.bool nx) (.slice adx xx.length qx))
    rw [hW] at kW sz7
    replace Zv := hid (Zv.out.now kW)
    replace Zx := hid (Zx.out.now kW)
    replace Pv := hid (Pv.out.step kW)
    replace G := hid (below_step G.out kW)
    have lz8 := (show Below _ _ _ from kW).size
    have Px : Hid (Duo V7 (w5.heap.size) (.bool nx) (.slice adx xx.length qx)) := by unfold Hid; rw [← hW]; exact duo_at (by simp)
    clear kW
    have q0 : ((0 : Int) == 0) = true := rfl
    have cx0 := Px.out.c0
    have cx1 := Px.out.c1
    have cv0 := Pv.out.c0
    have cv1 := Pv.out.c1
    rw [← hW] at cx0 cx1 cv0 cv1
    have EW := hid hW
    clear hW
    go_wp2_with fail
    rw [EW.out]
    clear EW
    clear cx0 cx1 cv0 cv1
    refine (alike_yes Zx.out Zv.out rfl).mono ?_
    rintro e w9 ⟨rfl, b⟩
    replace Zv := hid (Zv.out.now b)
    replace Zx := hid (Zx.out.now b)
    replace Pv := hid (Pv.out.step b)
    replace Px := hid (Px.out.step b)
    replace G := hid (below_step G.out b)
    have lz10 := (show Below _ _ _ from b).size
    clear b 
    go_wp2
    go_ret
    exact ⟨rfl, G.out⟩
  · skip
    have HW : Hid (∀ w, Calls Tryd.prog 14 #[.string ⟨l.toArray⟩, .int .i64 0] w fun e w' => ∃ r, e = .returned (.tuple #[r, .bool false]) ∧ (∃ z k, Zm w.heap.size w' r z k) ∧ Below w.heap.size w w') := fun w => wr_no (t := 0) hat hl hdr hk
    have HR : Hid (∀ w, Sg w → Calls Tryd.prog 7 #[.string ⟨l.toArray⟩] w fun e w' => e = .returned (.tuple #[.agg #[.bool false, .slice none 0 0], .int .i64 7]) ∧ Below w.heap.size w w') := fun w h => rd_no h hl hk
    clear hk hsv hdr hneg hT hat
    generalize (⟨l.toArray⟩ : ByteArray) = s at *
    generalize l.length = n at *
    (try clear hlw)
    go_enter Tryd.func5, Tryd.ntmps5
    go_wp2_with fail
    refine (HW.out w).mono ?_
    rintro e w1 ⟨r0, rfl, ⟨zv, kv, m0⟩, b⟩
    obtain ⟨nv, xv, adv, qv, rfl, -, -, -, -, -⟩ := id m0
    replace HT := hid (HT.out.now b)
    replace G := hid (below_step G.out b)
    have lz2 := (show Below _ _ _ from b).size
    have Zv := hid m0
    clear b m0
    obtain ⟨V3, hW⟩ : ∃ V3, w1.alloc (duo (.bool nv) (.slice adv xv.length qv)) = V3 := ⟨_, rfl⟩
    obtain ⟨kW, sz3⟩ := alloc1 w1 (duo (.bool nv) (.slice adv xv.length qv))
    rw [hW] at kW sz3
    replace Zv := hid (Zv.out.now kW)
    replace HT := hid (HT.out.now kW)
    replace G := hid (below_step G.out kW)
    have lz4 := (show Below _ _ _ from kW).size
    have Pv : Hid (Duo V3 (w1.heap.size) (.bool nv) (.slice adv xv.length qv)) := by unfold Hid; rw [← hW]; exact duo_at (by simp)
    clear kW
    have EW := hid hW
    clear hW
    go_wp2_with fail
    rw [EW.out]
    clear EW
    refine (HR.out _ HT.out).mono ?_
    rintro e w5 ⟨rfl, b⟩
    replace Zv := hid (Zv.out.now b)
    replace Pv := hid (Pv.out.step b)
    replace HT := hid (HT.out.now b)
    replace G := hid (below_step G.out b)
    have lz6 := (show Below _ _ _ from b).size
    clear b 
    clear HW HR HT
    have q7 : ((7 : Int) == 7) = true := rfl
    have q0 : ((0 : Int) == 0) = true := rfl
    obtain ⟨VX, hW⟩ : ∃ VX, w5.alloc zbox = VX := ⟨_, rfl⟩
    have kx : Below w5.heap.size w5 VX := by rw [← hW]; exact (Below.refl _ _).alloc (Nat.le_refl _) _
    have px : Duo VX w5.heap.size (.bool false) (.slice none 0 0) := by rw [← hW]; exact duo_at rfl
    have G2 := hid (below_step G.out kx)
    have cx0 := px.c0
    have cx1 := px.c1
    rw [← hW] at cx0 cx1
    have EW := hid hW
    clear hW kx px
    go_wp2
    rw [EW.out]
    go_ret
    exact ⟨rfl, G2.out⟩

set_option maxHeartbeats 6400000 in
set_option maxRecDepth 100000 in
theorem reads_bare3 {w : World} {a : UInt8} {r : List UInt8} (h1 : a ≠ 43) (h2 : a ≠ 45) (h4 : (a :: r).take 3 ≠ [226, 136, 146]) (h3 : 3 ≤ (a :: r).length) (hT : Sg w) (hl : (a :: r).length ≤ 1000000000) :
    Calls Tryd.prog 5 #[.string ⟨(a :: r).toArray⟩] w fun e w' => e = .returned (.bool true) ∧ Below w.heap.size w w' := by
  obtain ⟨l, hlw⟩ : ∃ l, l = a :: r := ⟨_, rfl⟩
  rw [← hlw] at hl ⊢
  have hsz : (⟨l.toArray⟩ : ByteArray).size = l.length := mk_size l
  have h0 : 0 < (⟨l.toArray⟩ : ByteArray).size := by rw [hsz, hlw]; simp
  have hix : (((⟨l.toArray⟩ : ByteArray)[0]'h0).toNat : Int) = (a.toNat : Int) := by subst hlw; rfl
  have h0' : (0 : Int) < ((⟨l.toArray⟩ : ByteArray).size : Int) := by omega
  have q43 : ((a.toNat : Int) == 43) = false := by rw [beq_eq_false_iff_ne]; intro e; exact h1 (UInt8.toNat_inj.1 (by show a.toNat = 43; omega))
  have q45 : ((a.toNat : Int) == 45) = false := by rw [beq_eq_false_iff_ne]; intro e; exact h2 (UInt8.toNat_inj.1 (by show a.toNat = 45; omega))
  have hcs : cutS l = (false, l) := by
    unfold cutS
    rw [if_neg (by rw [hlw]; simpa using h1), if_neg (by rw [hlw]; simpa using h2), if_neg (by rw [hlw]; exact h4)]
  have hneg : (cutS l).1 = false := by rw [hcs]
  have hdr : l.drop 0 = (cutS l).2 := by rw [hcs]; rfl
  have hat : 0 ≤ l.length := Nat.zero_le _
  have h3' : (3 : Int) ≤ ((⟨l.toArray⟩ : ByteArray).size : Int) := by rw [hsz, hlw]; omega
  obtain ⟨u, hu⟩ : ∃ u, u = (⟨l.toArray⟩ : ByteArray).extract 0 3 := ⟨_, rfl⟩
  have sl3 : ∀ w, (Instr.slice 9 (.string ⟨l.toArray⟩) none (some (.int .i64 3)) none).run Tryd.prog w = .ok (.string u) w := fun w => by rw [hu]; exact str_to w _ (by omega)
  have hul := long_yes u l (by omega) hu
  have quL : (u.toList == [226, 136, 146]) = false := by rw [hul, hlw, beq_eq_false_iff_ne]; exact h4
  clear hu hul hcs
  have hsv : sval l = if (cutS l).1 = true then -((ofD 10 (dsL (cutS l).2) : Nat) : Int) else ((ofD 10 (dsL (cutS l).2) : Nat) : Int) := rfl
  rw [hneg] at hsv
  rw [if_neg (by simp)] at hsv
  have HT := hid hT
  have G : Hid (Below w.heap.size w w) := Below.refl _ _
  by_cases hk : Takes l
  · skip
    have HW : Hid (∀ w, Calls Tryd.prog 14 #[.string ⟨l.toArray⟩, .int .i64 0] w fun e w' => ∃ r, e = .returned (.tuple #[r, .bool true]) ∧ Zm w.heap.size w' r ((ofD 10 (dsL (cutS l).2) : Nat) : Int) (l.length + 1) ∧ Below w.heap.size w w') := fun w => wr_ok (t := 0) hat hl hdr hk
    have HR : Hid (∀ w, Sg w → Calls Tryd.prog 7 #[.string ⟨l.toArray⟩] w fun e w' => ∃ r, e = .returned (.tuple #[r, .int .i64 0]) ∧ Zm 0 w' r (sval l) 35184372088832 ∧ Below w.heap.size w w') := fun w h => rd_ok h hl hk
    rw [hsv] at HR
    generalize ((ofD 10 (dsL (cutS l).2) : Nat) : Int) = V at *
    clear hk hsv hdr hneg hT hat
    generalize (⟨l.toArray⟩ : ByteArray) = s at *
    generalize l.length = n at *
    (try clear hlw)
    go_enter Tryd.func5, Tryd.ntmps5
    go_wp2_with fail
    refine (HW.out w).mono ?_
    rintro e w1 ⟨r0, rfl, m0, b⟩
    obtain ⟨nv, xv, adv, qv, rfl, -, -, -, -, -⟩ := id m0
    replace HT := hid (HT.out.now b)
    replace G := hid (below_step G.out b)
    have lz2 := (show Below _ _ _ from b).size
    have Zv := hid m0
    clear b m0
    obtain ⟨V3, hW⟩ : ∃ V3, w1.alloc (duo (.bool nv) (.slice adv xv.length qv)) = V3 := ⟨_, rfl⟩
    obtain ⟨kW, sz3⟩ := alloc1 w1 (duo (.bool nv) (.slice adv xv.length qv))
    rw [hW] at kW sz3
    replace Zv := hid (Zv.out.now kW)
    replace HT := hid (HT.out.now kW)
    replace G := hid (below_step G.out kW)
    have lz4 := (show Below _ _ _ from kW).size
    have Pv : Hid (Duo V3 (w1.heap.size) (.bool nv) (.slice adv xv.length qv)) := by unfold Hid; rw [← hW]; exact duo_at (by simp)
    clear kW
    have EW := hid hW
    clear hW
    go_wp2_with fail
    rw [EW.out]
    clear EW
    refine (HR.out _ HT.out).mono ?_
    rintro e w5 ⟨r0, rfl, m0, b⟩
    obtain ⟨nx, xx, adx, qx, rfl, -, -, -, -, -⟩ := id m0
    replace Zv := hid (Zv.out.now b)
    replace Pv := hid (Pv.out.step b)
    replace HT := hid (HT.out.now b)
    replace G := hid (below_step G.out b)
    have lz6 := (show Below _ _ _ from b).size
    have Zx := hid m0
    clear b m0
    clear HW HR HT
    obtain ⟨V7, hW⟩ : ∃ V7, w5.alloc (duo (.bool nx) (.slice adx xx.length qx)) = V7 := ⟨_, rfl⟩
    obtain ⟨kW, sz7⟩ := alloc1 w5 (duo (.bool nx) (.slice adx xx.length qx))
    rw [hW] at kW sz7
    replace Zv := hid (Zv.out.now kW)
    replace Zx := hid (Zx.out.now kW)
    replace Pv := hid (Pv.out.step kW)
    replace G := hid (below_step G.out kW)
    have lz8 := (show Below _ _ _ from kW).size
    have Px : Hid (Duo V7 (w5.heap.size) (.bool nx) (.slice adx xx.length qx)) := by unfold Hid; rw [← hW]; exact duo_at (by simp)
    clear kW
    have q0 : ((0 : Int) == 0) = true := rfl
    have cx0 := Px.out.c0
    have cx1 := Px.out.c1
    have cv0 := Pv.out.c0
    have cv1 := Pv.out.c1
    rw [← hW] at cx0 cx1 cv0 cv1
    have EW := hid hW
    clear hW
    go_wp2_with fail
    rw [EW.out]
    clear EW
    clear cx0 cx1 cv0 cv1
    refine (alike_yes Zx.out Zv.out rfl).mono ?_
    rintro e w9 ⟨rfl, b⟩
    replace Zv := hid (Zv.out.now b)
    replace Zx := hid (Zx.out.now b)
    replace Pv := hid (Pv.out.step b)
    replace Px := hid (Px.out.step b)
    replace G := hid (below_step G.out b)
    have lz10 := (show Below _ _ _ from b).size
    clear b 
    go_wp2
    go_ret
    exact ⟨rfl, G.out⟩
  · skip
    have HW : Hid (∀ w, Calls Tryd.prog 14 #[.string ⟨l.toArray⟩, .int .i64 0] w fun e w' => ∃ r, e = .returned (.tuple #[r, .bool false]) ∧ (∃ z k, Zm w.heap.size w' r z k) ∧ Below w.heap.size w w') := fun w => wr_no (t := 0) hat hl hdr hk
    have HR : Hid (∀ w, Sg w → Calls Tryd.prog 7 #[.string ⟨l.toArray⟩] w fun e w' => e = .returned (.tuple #[.agg #[.bool false, .slice none 0 0], .int .i64 7]) ∧ Below w.heap.size w w') := fun w h => rd_no h hl hk
    clear hk hsv hdr hneg hT hat
    generalize (⟨l.toArray⟩ : ByteArray) = s at *
    generalize l.length = n at *
    (try clear hlw)
    go_enter Tryd.func5, Tryd.ntmps5
    go_wp2_with fail
    refine (HW.out w).mono ?_
    rintro e w1 ⟨r0, rfl, ⟨zv, kv, m0⟩, b⟩
    obtain ⟨nv, xv, adv, qv, rfl, -, -, -, -, -⟩ := id m0
    replace HT := hid (HT.out.now b)
    replace G := hid (below_step G.out b)
    have lz2 := (show Below _ _ _ from b).size
    have Zv := hid m0
    clear b m0
    obtain ⟨V3, hW⟩ : ∃ V3, w1.alloc (duo (.bool nv) (.slice adv xv.length qv)) = V3 := ⟨_, rfl⟩
    obtain ⟨kW, sz3⟩ := alloc1 w1 (duo (.bool nv) (.slice adv xv.length qv))
    rw [hW] at kW sz3
    replace Zv := hid (Zv.out.now kW)
    replace HT := hid (HT.out.now kW)
    replace G := hid (below_step G.out kW)
    have lz4 := (show Below _ _ _ from kW).size
    have Pv : Hid (Duo V3 (w1.heap.size) (.bool nv) (.slice adv xv.length qv)) := by unfold Hid; rw [← hW]; exact duo_at (by simp)
    clear kW
    have EW := hid hW
    clear hW
    go_wp2_with fail
    rw [EW.out]
    clear EW
    refine (HR.out _ HT.out).mono ?_
    rintro e w5 ⟨rfl, b⟩
    replace Zv := hid (Zv.out.now b)
    replace Pv := hid (Pv.out.step b)
    replace HT := hid (HT.out.now b)
    replace G := hid (below_step G.out b)
    have lz6 := (show Below _ _ _ from b).size
    clear b 
    clear HW HR HT
    have q7 : ((7 : Int) == 7) = true := rfl
    have q0 : ((0 : Int) == 0) = true := rfl
    obtain ⟨VX, hW⟩ : ∃ VX, w5.alloc zbox = VX := ⟨_, rfl⟩
    have kx : Below w5.heap.size w5 VX := by rw [← hW]; exact (Below.refl _ _).alloc (Nat.le_refl _) _
    have px : Duo VX w5.heap.size (.bool false) (.slice none 0 0) := by rw [← hW]; exact duo_at rfl
    have G2 := hid (below_step G.out kx)
    have cx0 := px.c0
    have cx1 := px.c1
    rw [← hW] at cx0 cx1
    have EW := hid hW
    clear hW kx px
    go_wp2
    rw [EW.out]
    go_ret
    exact ⟨rfl, G2.out⟩

theorem reads_any {w : World} {l : List UInt8} (hT : Sg w) (hl : l.length ≤ 1000000000) : Calls Tryd.prog 5 #[.string ⟨l.toArray⟩] w fun e w' => e = .returned (.bool true) ∧ Below w.heap.size w w' := by
  cases l with
  | nil => exact reads_nil hT hl
  | cons a r =>
    by_cases h3 : 3 ≤ (a :: r).length
    · by_cases h1 : a = 43
      · subst h1; exact reads_plus3 h3 hT hl
      by_cases h2 : a = 45
      · subst h2; exact reads_minus3 h3 hT hl
      by_cases h4 : (a :: r).take 3 = [226, 136, 146]
      · obtain ⟨r', rfl⟩ : ∃ r', r = 136 :: 146 :: r' := by
          match r, h3, h4 with
          | b :: c :: r', _, h4 => exact ⟨r', by simp at h4; rw [h4.2.1, h4.2.2]⟩
        obtain rfl : a = 226 := by simpa using h4
        exact reads_long hT hl
      · exact reads_bare3 h1 h2 h4 h3 hT hl
    · by_cases h1 : a = 43
      · subst h1; exact reads_plus h3 hT hl
      by_cases h2 : a = 45
      · subst h2; exact reads_minus h3 hT hl
      · exact reads_bare h1 h2 (fun e => by have := congrArg List.length e; simp at this h3; omega) h3 hT hl
end Go.Proofs.YtpnekeapbpkioaaDoor
