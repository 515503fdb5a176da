/-
  Ke25: the law LexerKeeps.
-/
import Derived.Test.YtdfnehngffajiaaDoorMa25
import Derived.Test.YtdfnehngffajiaaDoorGa25
import Derived.Test.YtdfnehngffajiaaDoorTn25
import Derived.Test.YtdfnehngffajiaaDoorLp25
import Derived.Test.YtdfnehngffajiaaDoorLi25
import Derived.Test.YtdfnehngffajiaaDoorLn25
import Derived.Test.YtdfnehngffajiaaDoorTx25
import Derived.Test.YtdfnehngffajiaaDoorBp25
namespace Go.Proofs.YtdfnehngffajiaaDoor
open Go.RowKit
set_option linter.unusedVariables false

/-- A list whose row lies from lo on and below hi. -/
def RS (lo hi : Nat) (w : World) (v : Value) (L : List ByteArray) : Prop := Strs lo w v L ∧ ∀ g, v.ownBlock = some g → g < hi
def RT (lo hi : Nat) (w : World) (v : Value) (L : List Tok) : Prop := Toks lo w v L ∧ ∀ g, v.ownBlock = some g → g < hi
theorem RS.of {lo : Nat} {w : World} {v : Value} {L : List ByteArray} (h : Strs lo w v L) : RS lo w.heap.size w v L := ⟨h, fun g e => (World.ownsRow.lt h _ e).2⟩
theorem RT.of {lo : Nat} {w : World} {v : Value} {L : List Tok} (h : Toks lo w v L) : RT lo w.heap.size w v L := ⟨h, fun g e => (World.ownsRow.lt h _ e).2⟩
theorem RS.now {lo hi : Nat} {w w' : World} {v : Value} {L : List ByteArray} (h : RS lo hi w v L) (hb : Below w.heap.size w w') : RS lo hi w' v L := ⟨h.1.now hb, h.2⟩
theorem RT.now {lo hi : Nat} {w w' : World} {v : Value} {L : List Tok} (h : RT lo hi w v L) (hb : Below w.heap.size w w') : RT lo hi w' v L := ⟨h.1.now hb, h.2⟩
theorem RS.tou {lo hi : Nat} {w w' : World} {v : Value} {L : List ByteArray} {U : Nat → Value} (h : RS lo hi w v L) (ht : Tou w w' U) (hU : ∀ i, i < 4 → ∀ g, (U i).ownBlock = some g → hi ≤ g) : RS lo hi w' v L :=
  ⟨row_keep25 h.1 fun b hb => ht.2.2.2.2 b (World.ownsRow.lt h.1 b hb).2 fun i hi' e => by have := hU i hi' b e; have := h.2 b hb; omega, h.2⟩
theorem RT.tou {lo hi : Nat} {w w' : World} {v : Value} {L : List Tok} {U : Nat → Value} (h : RT lo hi w v L) (ht : Tou w w' U) (hU : ∀ i, i < 4 → ∀ g, (U i).ownBlock = some g → hi ≤ g) : RT lo hi w' v L :=
  ⟨row_keep25 h.1 fun b hb => ht.2.2.2.2 b (World.ownsRow.lt h.1 b hb).2 fun i hi' e => by have := hU i hi' b e; have := h.2 b hb; omega, h.2⟩
theorem tou_below {w0 w w' : World} {U : Nat → Value} (hb : Below w0.heap.size w0 w) (ht : Tou w w' U) (hU : ∀ i, i < 4 → ∀ g, (U i).ownBlock = some g → w0.heap.size ≤ g) : Below w0.heap.size w0 w' := by
  obtain ⟨t1, t2, t3, t4, t5⟩ := ht
  refine ⟨t1.trans hb.os, t2.trans hb.tape, t3.trans hb.output, Nat.le_trans hb.size t4, fun k hk => ?_⟩
  have h1 := hb.size
  exact (t5 k (by omega) (fun i hi e => by have := hU i hi k e; omega)).trans (hb.block k hk)
theorem quad25 {w : World} {a b x y : Value} {La Lb : List ByteArray} {Lx Ly : List Tok} {l0 h0 l1 h1 l2 h2 l3 h3 : Nat} (ra : RS l0 h0 w a La) (rb : RS l1 h1 w b Lb) (rx : RT l2 h2 w x Lx) (ry : RT l3 h3 w y Ly)
    (d01 : h0 ≤ l1 ∨ h1 ≤ l0) (d02 : h0 ≤ l2 ∨ h2 ≤ l0) (d03 : h0 ≤ l3 ∨ h3 ≤ l0) (d12 : h1 ≤ l2 ∨ h2 ≤ l1) (d13 : h1 ≤ l3 ∨ h3 ≤ l1) (d23 : h2 ≤ l3 ∨ h3 ≤ l2) :
    Quad w w (F4 a b x y) (F4 a b x y) (F4 La.length Lb.length Lx.length Ly.length) (F4 La.length Lb.length Lx.length Ly.length) (F4 0 0 0 0) := by
  have bk : ∀ {u : Value} {c : Nat}, Blk2 u u c → u.ownBlock = some c := fun h => h.elim id id
  have ia : ∀ c, a.ownBlock = some c → l0 ≤ c ∧ c < h0 := fun c e => ⟨(World.ownsRow.lt ra.1 _ e).1, ra.2 c e⟩
  have ib : ∀ c, b.ownBlock = some c → l1 ≤ c ∧ c < h1 := fun c e => ⟨(World.ownsRow.lt rb.1 _ e).1, rb.2 c e⟩
  have ix : ∀ c, x.ownBlock = some c → l2 ≤ c ∧ c < h2 := fun c e => ⟨(World.ownsRow.lt rx.1 _ e).1, rx.2 c e⟩
  have iy : ∀ c, y.ownBlock = some c → l3 ≤ c ∧ c < h3 := fun c e => ⟨(World.ownsRow.lt ry.1 _ e).1, ry.2 c e⟩
  refine ⟨four (Lin.start ra.1) (Lin.start rb.1) (Lin.start rx.1) (Lin.start ry.1), fun i j c hi hj hij p q => ?_, fun i c _ e => .inl e, rfl, rfl, rfl, Nat.le_refl _, fun _ _ _ => rfl⟩
  have p' := bk p
  have q' := bk q
  obtain rfl | rfl | rfl | rfl : i = 0 ∨ i = 1 ∨ i = 2 ∨ i = 3 := by omega
  all_goals obtain rfl | rfl | rfl | rfl : j = 0 ∨ j = 1 ∨ j = 2 ∨ j = 3 := by omega
  all_goals first | exact hij rfl | (dsimp only [F4] at p' q'; first | (have := ia c p'; have := ib c q'; omega) | (have := ia c p'; have := ix c q'; omega) | (have := ia c p'; have := iy c q'; omega) | (have := ib c p'; have := ia c q'; omega) | (have := ib c p'; have := ix c q'; omega) | (have := ib c p'; have := iy c q'; omega) | (have := ix c p'; have := ia c q'; omega) | (have := ix c p'; have := ib c q'; omega) | (have := ix c p'; have := iy c q'; omega) | (have := iy c p'; have := ia c q'; omega) | (have := iy c p'; have := ib c q'; omega) | (have := iy c p'; have := ix c q'; omega))
theorem low25 {w : World} {a b x y : Value} {La Lb : List ByteArray} {Lx Ly : List Tok} {l0 h0 l1 h1 l2 h2 l3 h3 m : Nat} (ra : RS l0 h0 w a La) (rb : RS l1 h1 w b Lb) (rx : RT l2 h2 w x Lx) (ry : RT l3 h3 w y Ly)
    (m0 : m ≤ l0) (m1 : m ≤ l1) (m2 : m ≤ l2) (m3 : m ≤ l3) : ∀ i, i < 4 → ∀ g, (F4 a b x y i).ownBlock = some g → m ≤ g :=
  four (fun g e => Nat.le_trans m0 (World.ownsRow.lt ra.1 _ e).1) (fun g e => Nat.le_trans m1 (World.ownsRow.lt rb.1 _ e).1) (fun g e => Nat.le_trans m2 (World.ownsRow.lt rx.1 _ e).1) (fun g e => Nat.le_trans m3 (World.ownsRow.lt ry.1 _ e).1)
set_option maxHeartbeats 6400000 in
set_option maxRecDepth 100000 in
theorem lexerKeeps_any {w : World} {s t : ByteArray} (hm : MaxL w) (hs : s.size ≤ 1048576) (ht : t.size ≤ 1048576) : Calls Tryd.prog 4 #[.string s, .string t] w (Well25 w) := by
  have A0 := hid (awake_now hm)
  have MX : Hid (∀ wx : World, Below w.heap.size w wx → MaxL wx) := hid fun wx hb => hm.on hb
  have RL : Hid (∀ w : World, Calls Tryd.prog 8 #[.string s] w fun e w' => ∃ v, e = .returned v ∧ Strs w.heap.size w' v (linesS s) ∧ Below w.heap.size w w') := hid fun w => rlines25 w (by omega)
  have RK : Hid (∀ w : World, Calls Tryd.prog 9 #[.string s] w (TokD s gR w)) := hid fun w => rtokens25 w (by omega) (grC_own hs)
  have PL : Hid (∀ w, MaxL w → Calls Tryd.prog 10 #[.string s] w (LinP s w)) := hid fun w h => lines25p w h (by omega)
  have PT : Hid (∀ w, MaxL w → Calls Tryd.prog 11 #[.string s] w (TokD s gR w)) := hid fun w h => tokens25p w h (by omega) (grP_ref s)
  have QL : Hid (∀ w, MaxL w → Calls Tryd.prog 10 #[.string t] w (LinP t w)) := hid fun w h => lines25p w h (by omega)
  have QT : Hid (∀ w, MaxL w → Calls Tryd.prog 11 #[.string t] w (TokD t gR w)) := hid fun w h => tokens25p w h (by omega) (grP_ref t)
  have LS : Hid ((linesS s).length ≤ 1000000000000) := hid (by have := linesS_len s; omega)
  have LT : Hid ((linesS t).length ≤ 1000000000000) := hid (by have := linesS_len t; omega)
  have HS := hid hs
  have HT := hid ht
  clear hm hs ht
  unfold Well25 at A0 ⊢
  unfold LinP at PL QL
  unfold TokD at RK PT QT
  go_enter Tryd.func4, Tryd.ntmps4
  go_wp2_with fail
  refine A0.out.mono ?_
  rintro e w1 ⟨rfl, b1⟩
  have B := hid b1
  have Z0 := hid b1.size
  clear A0 b1
  go_wp2_with fail
  refine (RL.out w1).mono ?_
  rintro e w2 ⟨vwant, rfl, kwant, b2⟩
  have Rwant := hid (RS.of kwant)
  have Z1 := hid b2.size
  replace B := hid (below_on25 B.out b2)
  clear b2 kwant
  go_wp2_with fail
  refine (RK.out w2).mono ?_
  rintro e w3 ⟨vmore, Tmore, pmore, qmore, rfl, tmore, kmore, b3⟩
  have Hmore := hid tmore
  have Umore : Hid (Tmore.length ≤ 1000000000000) := hid (by have := (tkn_all tmore (by have := HS.out; omega)).1; omega)
  have Rmore := hid (RT.of kmore)
  replace Rwant := hid (Rwant.out.now b3)
  have Z2 := hid b3.size
  replace B := hid (below_on25 B.out b3)
  clear b3 kmore tmore
  go_wp2_with fail
  refine (PL.out w3 (MX.out _ B.out)).mono ?_
  rintro e w4 ⟨va, rfl, ka, b4⟩
  have Ra := hid (RS.of ka)
  replace Rwant := hid (Rwant.out.now b4)
  replace Rmore := hid (Rmore.out.now b4)
  have Z3 := hid b4.size
  replace B := hid (below_on25 B.out b4)
  clear b4 ka
  go_wp2_with fail
  refine (PL.out w4 (MX.out _ B.out)).mono ?_
  rintro e w5 ⟨vb, rfl, kb, b5⟩
  have Rb := hid (RS.of kb)
  replace Rwant := hid (Rwant.out.now b5)
  replace Rmore := hid (Rmore.out.now b5)
  replace Ra := hid (Ra.out.now b5)
  have Z4 := hid b5.size
  replace B := hid (below_on25 B.out b5)
  clear b5 kb
  go_wp2_with fail
  refine (PT.out w5 (MX.out _ B.out)).mono ?_
  rintro e w6 ⟨vx, Tx, px, qx, rfl, tx, kx, b6⟩
  obtain ⟨e1, e2, e3⟩ := tkn_one tx Hmore.out
  subst e1 e2 e3
  have Rx := hid (RT.of kx)
  replace Rwant := hid (Rwant.out.now b6)
  replace Rmore := hid (Rmore.out.now b6)
  replace Ra := hid (Ra.out.now b6)
  replace Rb := hid (Rb.out.now b6)
  have Z5 := hid b6.size
  replace B := hid (below_on25 B.out b6)
  clear b6 kx tx
  go_wp2_with fail
  refine (PT.out w6 (MX.out _ B.out)).mono ?_
  rintro e w7 ⟨vy, Ty, py, qy, rfl, ty, ky, b7⟩
  obtain ⟨e1, e2, e3⟩ := tkn_one ty Hmore.out
  subst e1 e2 e3
  have Ry := hid (RT.of ky)
  replace Rwant := hid (Rwant.out.now b7)
  replace Rmore := hid (Rmore.out.now b7)
  replace Ra := hid (Ra.out.now b7)
  replace Rb := hid (Rb.out.now b7)
  replace Rx := hid (Rx.out.now b7)
  have Z6 := hid b7.size
  replace B := hid (below_on25 B.out b7)
  clear b7 ky ty
  go_wp2_with fail
  refine (texts25 Ra.out.1 Rwant.out.1 LS.out).mono ?_
  rintro e w8 ⟨rfl, q8, hq⟩
  have b8 : Below w7.heap.size w7 w8 := by rw [hq]; exact below_dr25 q8 (Below.refl _ _)
  replace Rwant := hid (Rwant.out.now b8)
  replace Rmore := hid (Rmore.out.now b8)
  replace Ra := hid (Ra.out.now b8)
  replace Rb := hid (Rb.out.now b8)
  replace Rx := hid (Rx.out.now b8)
  replace Ry := hid (Ry.out.now b8)
  have Z7 := hid b8.size
  replace B := hid (below_on25 B.out b8)
  clear b8 hq
  go_wp2_with fail
  refine (texts25 Rb.out.1 Rwant.out.1 LS.out).mono ?_
  rintro e w9 ⟨rfl, q9, hq⟩
  have b9 : Below w8.heap.size w8 w9 := by rw [hq]; exact below_dr25 q9 (Below.refl _ _)
  replace Rwant := hid (Rwant.out.now b9)
  replace Rmore := hid (Rmore.out.now b9)
  replace Ra := hid (Ra.out.now b9)
  replace Rb := hid (Rb.out.now b9)
  replace Rx := hid (Rx.out.now b9)
  replace Ry := hid (Ry.out.now b9)
  have Z8 := hid b9.size
  replace B := hid (below_on25 B.out b9)
  clear b9 hq
  go_wp2_with fail
  refine (tokens25 Rx.out.1 Rmore.out.1 Umore.out).mono ?_
  rintro e w10 ⟨rfl, q10, hq⟩
  have b10 : Below w9.heap.size w9 w10 := by rw [hq]; exact below_dr25 q10 (Below.refl _ _)
  replace Rwant := hid (Rwant.out.now b10)
  replace Rmore := hid (Rmore.out.now b10)
  replace Ra := hid (Ra.out.now b10)
  replace Rb := hid (Rb.out.now b10)
  replace Rx := hid (Rx.out.now b10)
  replace Ry := hid (Ry.out.now b10)
  have Z9 := hid b10.size
  replace B := hid (below_on25 B.out b10)
  clear b10 hq
  go_wp2_with fail
  refine (tokens25 Ry.out.1 Rmore.out.1 Umore.out).mono ?_
  rintro e w11 ⟨rfl, q11, hq⟩
  have b11 : Below w10.heap.size w10 w11 := by rw [hq]; exact below_dr25 q11 (Below.refl _ _)
  replace Rwant := hid (Rwant.out.now b11)
  replace Rmore := hid (Rmore.out.now b11)
  replace Ra := hid (Ra.out.now b11)
  replace Rb := hid (Rb.out.now b11)
  replace Rx := hid (Rx.out.now b11)
  replace Ry := hid (Ry.out.now b11)
  have Z10 := hid b11.size
  replace B := hid (below_on25 B.out b11)
  clear b11 hq
  have hd := quad25 Ra.out Rb.out Rx.out Ry.out (by have := Z0.out; have := Z1.out; have := Z2.out; have := Z3.out; have := Z4.out; have := Z5.out; have := Z6.out; have := Z7.out; have := Z8.out; have := Z9.out; have := Z10.out; omega) (by have := Z0.out; have := Z1.out; have := Z2.out; have := Z3.out; have := Z4.out; have := Z5.out; have := Z6.out; have := Z7.out; have := Z8.out; have := Z9.out; have := Z10.out; omega) (by have := Z0.out; have := Z1.out; have := Z2.out; have := Z3.out; have := Z4.out; have := Z5.out; have := Z6.out; have := Z7.out; have := Z8.out; have := Z9.out; have := Z10.out; omega) (by have := Z0.out; have := Z1.out; have := Z2.out; have := Z3.out; have := Z4.out; have := Z5.out; have := Z6.out; have := Z7.out; have := Z8.out; have := Z9.out; have := Z10.out; omega) (by have := Z0.out; have := Z1.out; have := Z2.out; have := Z3.out; have := Z4.out; have := Z5.out; have := Z6.out; have := Z7.out; have := Z8.out; have := Z9.out; have := Z10.out; omega) (by have := Z0.out; have := Z1.out; have := Z2.out; have := Z3.out; have := Z4.out; have := Z5.out; have := Z6.out; have := Z7.out; have := Z8.out; have := Z9.out; have := Z10.out; omega)
  have hl : ∀ m, m ≤ w3.heap.size → ∀ i, i < 4 → ∀ g, (F4 va vb vx vy i).ownBlock = some g → m ≤ g := fun m hm => low25 Ra.out Rb.out Rx.out Ry.out (by have := Z0.out; have := Z1.out; have := Z2.out; have := Z3.out; have := Z4.out; have := Z5.out; have := Z6.out; have := Z7.out; have := Z8.out; have := Z9.out; have := Z10.out; omega) (by have := Z0.out; have := Z1.out; have := Z2.out; have := Z3.out; have := Z4.out; have := Z5.out; have := Z6.out; have := Z7.out; have := Z8.out; have := Z9.out; have := Z10.out; omega) (by have := Z0.out; have := Z1.out; have := Z2.out; have := Z3.out; have := Z4.out; have := Z5.out; have := Z6.out; have := Z7.out; have := Z8.out; have := Z9.out; have := Z10.out; omega) (by have := Z0.out; have := Z1.out; have := Z2.out; have := Z3.out; have := Z4.out; have := Z5.out; have := Z6.out; have := Z7.out; have := Z8.out; have := Z9.out; have := Z10.out; omega)
  have HL := hid hl
  have HD := hid (lmark25 hd LS.out LS.out Umore.out Umore.out)
  clear hd hl
  go_wp2_with fail
  refine HD.out.mono ?_
  rintro e w12 ⟨rfl, ht⟩
  have B9 := hid (tou_below B.out ht (HL.out _ (by have := Z0.out; have := Z1.out; have := Z2.out; have := Z3.out; have := Z4.out; have := Z5.out; have := Z6.out; have := Z7.out; have := Z8.out; have := Z9.out; have := Z10.out; omega)))
  have Z11 : Hid (w11.heap.size ≤ w12.heap.size) := hid ht.2.2.2.1
  replace Rwant := hid (Rwant.out.tou ht (HL.out _ (by have := Z0.out; have := Z1.out; have := Z2.out; have := Z3.out; have := Z4.out; have := Z5.out; have := Z6.out; have := Z7.out; have := Z8.out; have := Z9.out; have := Z10.out; omega)))
  replace Rmore := hid (Rmore.out.tou ht (HL.out _ (by have := Z0.out; have := Z1.out; have := Z2.out; have := Z3.out; have := Z4.out; have := Z5.out; have := Z6.out; have := Z7.out; have := Z8.out; have := Z9.out; have := Z10.out; omega)))
  replace B := B9
  clear B9 ht HL HD Ra Rb Rx Ry
  go_wp2_with fail
  refine (QL.out w12 (MX.out _ B.out)).mono ?_
  rintro e w13 ⟨vc, rfl, kc, b13⟩
  have Rc := hid (RS.of kc)
  replace Rwant := hid (Rwant.out.now b13)
  replace Rmore := hid (Rmore.out.now b13)
  have Z12 := hid b13.size
  replace B := hid (below_on25 B.out b13)
  clear b13 kc
  go_wp2_with fail
  refine (QT.out w13 (MX.out _ B.out)).mono ?_
  rintro e w14 ⟨vz, Tz, pz, qz, rfl, tz, kz, b14⟩
  have Hz := hid tz
  have Uz : Hid (Tz.length ≤ 1000000000000) := hid (by have := (tkn_all tz (by have := HT.out; omega)).1; omega)
  have Rz := hid (RT.of kz)
  replace Rwant := hid (Rwant.out.now b14)
  replace Rmore := hid (Rmore.out.now b14)
  replace Rc := hid (Rc.out.now b14)
  have Z13 := hid b14.size
  replace B := hid (below_on25 B.out b14)
  clear b14 kz tz
  go_wp2_with fail
  refine (PL.out w14 (MX.out _ B.out)).mono ?_
  rintro e w15 ⟨vd, rfl, kd, b15⟩
  have Rd := hid (RS.of kd)
  replace Rwant := hid (Rwant.out.now b15)
  replace Rmore := hid (Rmore.out.now b15)
  replace Rc := hid (Rc.out.now b15)
  replace Rz := hid (Rz.out.now b15)
  have Z14 := hid b15.size
  replace B := hid (below_on25 B.out b15)
  clear b15 kd
  go_wp2_with fail
  refine (PT.out w15 (MX.out _ B.out)).mono ?_
  rintro e w16 ⟨vv, Tv, pv, qv, rfl, tv, kv, b16⟩
  obtain ⟨e1, e2, e3⟩ := tkn_one tv Hmore.out
  subst e1 e2 e3
  have Rv := hid (RT.of kv)
  replace Rwant := hid (Rwant.out.now b16)
  replace Rmore := hid (Rmore.out.now b16)
  replace Rc := hid (Rc.out.now b16)
  replace Rz := hid (Rz.out.now b16)
  replace Rd := hid (Rd.out.now b16)
  have Z15 := hid b16.size
  replace B := hid (below_on25 B.out b16)
  clear b16 kv tv
  go_wp2_with fail
  refine (texts25 Rd.out.1 Rwant.out.1 LS.out).mono ?_
  rintro e w17 ⟨rfl, q17, hq⟩
  have b17 : Below w16.heap.size w16 w17 := by rw [hq]; exact below_dr25 q17 (Below.refl _ _)
  replace Rwant := hid (Rwant.out.now b17)
  replace Rmore := hid (Rmore.out.now b17)
  replace Rc := hid (Rc.out.now b17)
  replace Rz := hid (Rz.out.now b17)
  replace Rd := hid (Rd.out.now b17)
  replace Rv := hid (Rv.out.now b17)
  have Z16 := hid b17.size
  replace B := hid (below_on25 B.out b17)
  clear b17 hq
  go_wp2_with fail
  refine (tokens25 Rv.out.1 Rmore.out.1 Umore.out).mono ?_
  rintro e w18 ⟨rfl, q18, hq⟩
  have b18 : Below w17.heap.size w17 w18 := by rw [hq]; exact below_dr25 q18 (Below.refl _ _)
  replace Rwant := hid (Rwant.out.now b18)
  replace Rmore := hid (Rmore.out.now b18)
  replace Rc := hid (Rc.out.now b18)
  replace Rz := hid (Rz.out.now b18)
  replace Rd := hid (Rd.out.now b18)
  replace Rv := hid (Rv.out.now b18)
  have Z17 := hid b18.size
  replace B := hid (below_on25 B.out b18)
  clear b18 hq
  have hd := quad25 Rc.out Rd.out Rz.out Rv.out (by have := Z0.out; have := Z1.out; have := Z2.out; have := Z3.out; have := Z4.out; have := Z5.out; have := Z6.out; have := Z7.out; have := Z8.out; have := Z9.out; have := Z10.out; have := Z11.out; have := Z12.out; have := Z13.out; have := Z14.out; have := Z15.out; have := Z16.out; have := Z17.out; omega) (by have := Z0.out; have := Z1.out; have := Z2.out; have := Z3.out; have := Z4.out; have := Z5.out; have := Z6.out; have := Z7.out; have := Z8.out; have := Z9.out; have := Z10.out; have := Z11.out; have := Z12.out; have := Z13.out; have := Z14.out; have := Z15.out; have := Z16.out; have := Z17.out; omega) (by have := Z0.out; have := Z1.out; have := Z2.out; have := Z3.out; have := Z4.out; have := Z5.out; have := Z6.out; have := Z7.out; have := Z8.out; have := Z9.out; have := Z10.out; have := Z11.out; have := Z12.out; have := Z13.out; have := Z14.out; have := Z15.out; have := Z16.out; have := Z17.out; omega) (by have := Z0.out; have := Z1.out; have := Z2.out; have := Z3.out; have := Z4.out; have := Z5.out; have := Z6.out; have := Z7.out; have := Z8.out; have := Z9.out; have := Z10.out; have := Z11.out; have := Z12.out; have := Z13.out; have := Z14.out; have := Z15.out; have := Z16.out; have := Z17.out; omega) (by have := Z0.out; have := Z1.out; have := Z2.out; have := Z3.out; have := Z4.out; have := Z5.out; have := Z6.out; have := Z7.out; have := Z8.out; have := Z9.out; have := Z10.out; have := Z11.out; have := Z12.out; have := Z13.out; have := Z14.out; have := Z15.out; have := Z16.out; have := Z17.out; omega) (by have := Z0.out; have := Z1.out; have := Z2.out; have := Z3.out; have := Z4.out; have := Z5.out; have := Z6.out; have := Z7.out; have := Z8.out; have := Z9.out; have := Z10.out; have := Z11.out; have := Z12.out; have := Z13.out; have := Z14.out; have := Z15.out; have := Z16.out; have := Z17.out; omega)
  have hl : ∀ m, m ≤ w12.heap.size → ∀ i, i < 4 → ∀ g, (F4 vc vd vz vv i).ownBlock = some g → m ≤ g := fun m hm => low25 Rc.out Rd.out Rz.out Rv.out (by have := Z0.out; have := Z1.out; have := Z2.out; have := Z3.out; have := Z4.out; have := Z5.out; have := Z6.out; have := Z7.out; have := Z8.out; have := Z9.out; have := Z10.out; have := Z11.out; have := Z12.out; have := Z13.out; have := Z14.out; have := Z15.out; have := Z16.out; have := Z17.out; omega) (by have := Z0.out; have := Z1.out; have := Z2.out; have := Z3.out; have := Z4.out; have := Z5.out; have := Z6.out; have := Z7.out; have := Z8.out; have := Z9.out; have := Z10.out; have := Z11.out; have := Z12.out; have := Z13.out; have := Z14.out; have := Z15.out; have := Z16.out; have := Z17.out; omega) (by have := Z0.out; have := Z1.out; have := Z2.out; have := Z3.out; have := Z4.out; have := Z5.out; have := Z6.out; have := Z7.out; have := Z8.out; have := Z9.out; have := Z10.out; have := Z11.out; have := Z12.out; have := Z13.out; have := Z14.out; have := Z15.out; have := Z16.out; have := Z17.out; omega) (by have := Z0.out; have := Z1.out; have := Z2.out; have := Z3.out; have := Z4.out; have := Z5.out; have := Z6.out; have := Z7.out; have := Z8.out; have := Z9.out; have := Z10.out; have := Z11.out; have := Z12.out; have := Z13.out; have := Z14.out; have := Z15.out; have := Z16.out; have := Z17.out; omega)
  have HL := hid hl
  have HD := hid (lmark25 hd LT.out LS.out Uz.out Umore.out)
  clear hd hl
  go_wp2_with fail
  refine HD.out.mono ?_
  rintro e w19 ⟨rfl, ht⟩
  have B9 := hid (tou_below B.out ht (HL.out _ (by have := Z0.out; have := Z1.out; have := Z2.out; have := Z3.out; have := Z4.out; have := Z5.out; have := Z6.out; have := Z7.out; have := Z8.out; have := Z9.out; have := Z10.out; have := Z11.out; have := Z12.out; have := Z13.out; have := Z14.out; have := Z15.out; have := Z16.out; have := Z17.out; omega)))
  go_wp2
  go_ret
  exact ⟨rfl, B9.out⟩
end Go.Proofs.YtdfnehngffajiaaDoor
