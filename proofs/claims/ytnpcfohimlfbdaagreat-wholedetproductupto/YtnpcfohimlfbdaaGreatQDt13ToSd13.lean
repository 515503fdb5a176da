/-
 QDt13ToSd13: Dt13, Ld13, Wk13, PickA9, PickB9, Pk13, Sd13, joined.
-/
import Derived.Test.YtnpcfohimlfbdaaGreatQDe13
import Derived.Test.YtnpcfohimlfbdaaGreatQSh11ToChkN9
import Derived.Test.YtnpcfohimlfbdaaGreatQEach9ToColsP9
import Derived.Test.YtnpcfohimlfbdaaGreatQUnit9ToWk9
import Derived.Test.YtnpcfohimlfbdaaGreatQExact0ToZlaw0
import Derived.Test.YtnpcfohimlfbdaaGreatQSo13ToInts9

set_option maxRecDepth 100000
set_option maxHeartbeats 6400000
set_option linter.unusedVariables false
set_option linter.unusedSimpArgs false
namespace Go.Proofs.YtnpcfohimlfbdaaGreat
open Go.RowKit

theorem Stz.le {A : Nat → Nat → Int} {n i : Nat} {rs cs : List Nat} {odd : Bool} (h : Stz A n i rs cs odd) : rs.length ≤ i := by
 have : rs.length ≤ (List.range i).length := List.Nodup.length_le_of_subset (h.up.imp fun hab => Nat.ne_of_lt hab) fun r hr => by simpa using h.lt r hr
 simpa using this
theorem csq_no {w : World} {r c : Int} {a : Option Addr} {l cap : Nat} (h : ¬ Snd r c l) : Calls Tryz.prog 22 #[.agg #[.int .i64 r, .int .i64 c, .slice a l cap]] w fun e w' => e = .returned (.int .i64 1) ∧ Below w.heap.size w w' := by
 obtain ⟨W0, hW⟩ : ∃ W0, w.alloc (.cells #[.int .i64 r, .int .i64 c, .slice a l cap] 24) = W0 := ⟨_, rfl⟩
 obtain ⟨b0, sz0⟩ := alo1 w (.cells #[.int .i64 r, .int .i64 c, .slice a l cap] 24)
 rw [hW] at b0 sz0
 have HC := hid (check_no (w := W0) (a := a) (cap := cap) h)
 have G := hid b0
 have EW := hid hW
 clear h b0 sz0 hW
 go_enter Tryz.func22, Tryz.ntmps22
 go_wp2_with fail
 rw [EW.out]
 refine HC.out.mono ?_
 rintro e w1 ⟨rfl, b⟩
 have G1 := hid (below_step G.out b)
 clear HC b
 go_wp2
 go_ret
 exact ⟨rfl, G1.out⟩
theorem csq_fit {w : World} {v : Value} {r c : Nat} {zs : List Int} {k : Nat} (h : Mx w v r c zs k) (hrc : r ≠ c) : Calls Tryz.prog 22 #[v] w fun e w' => e = .returned (.int .i64 2) ∧ Below w.heap.size w w' := by
 have M0 := h
 obtain ⟨aa, ca, rfl, hr, hc⟩ := h.form
 obtain ⟨la, hla⟩ : ∃ la, r * c = la := ⟨_, rfl⟩
 rw [hla] at M0 ⊢
 obtain ⟨W0, hW⟩ : ∃ W0, w.alloc (matO r c (.slice aa la ca)) = W0 := ⟨_, rfl⟩
 obtain ⟨b0, sz0⟩ := alo1 w (matO r c (.slice aa la ca))
 rw [hW] at b0 sz0
 have P0 : Hid (Cel W0 w.heap.size 24 (matc r c (.slice aa la ca))) := by unfold Hid; rw [← hW]; exact Cel.new w _ _
 have HC := hid (check_yes (M0.now b0))
 have G := hid b0
 have EW := hid hW
 have hne : ¬ (r : Int) = (c : Int) := by omega
 have hnb : ((r : Int) != (c : Int)) = true := by simp; omega
 have HNB := hid hnb
 clear h M0 b0 sz0 hW hla hrc hnb
 go_enter Tryz.func22, Tryz.ntmps22
 go_wp2_with fail
 rw [EW.out]
 refine HC.out.mono ?_
 rintro e w1 ⟨rfl, b⟩
 have G1 := hid (below_step G.out b)
 have x0 := (P0.out.step b).at (i := 0) rfl
 have x1 := (P0.out.step b).at (i := 1) rfl
 clear HC b
 go_wp2
 go_ret
 exact ⟨rfl, G1.out⟩
theorem csq_yes {w : World} {v : Value} {n : Nat} {zs : List Int} {k : Nat} (h : Mx w v n n zs k) : Calls Tryz.prog 22 #[v] w fun e w' => e = .returned (.int .i64 0) ∧ Below w.heap.size w w' := by
 have M0 := h
 obtain ⟨aa, ca, rfl, hr, hc⟩ := h.form
 obtain ⟨la, hla⟩ : ∃ la, n * n = la := ⟨_, rfl⟩
 rw [hla] at M0 ⊢
 obtain ⟨W0, hW⟩ : ∃ W0, w.alloc (matO n n (.slice aa la ca)) = W0 := ⟨_, rfl⟩
 obtain ⟨b0, sz0⟩ := alo1 w (matO n n (.slice aa la ca))
 rw [hW] at b0 sz0
 have P0 : Hid (Cel W0 w.heap.size 24 (matc n n (.slice aa la ca))) := by unfold Hid; rw [← hW]; exact Cel.new w _ _
 have HC := hid (check_yes (M0.now b0))
 have G := hid b0
 have EW := hid hW
 clear h M0 b0 sz0 hW hla
 go_enter Tryz.func22, Tryz.ntmps22
 go_wp2_with fail
 rw [EW.out]
 refine HC.out.mono ?_
 rintro e w1 ⟨rfl, b⟩
 have G1 := hid (below_step G.out b)
 have x0 := (P0.out.step b).at (i := 0) rfl
 have x1 := (P0.out.step b).at (i := 1) rfl
 clear HC b
 go_wp2
 go_ret
 exact ⟨rfl, G1.out⟩
/-- What checkSquare refuses. -/
theorem det_of {w : World} {r c : Int} {a : Option Addr} {l cap : Nat} {E : Int} (hE : E = 1 ∨ E = 2)
  (h : ∀ w', Below w.heap.size w w' → Calls Tryz.prog 22 #[.agg #[.int .i64 r, .int .i64 c, .slice a l cap]] w' fun e w'' => e = .returned (.int .i64 E) ∧ Below w'.heap.size w' w'') :
  Calls Tryz.prog 6 #[.agg #[.int .i64 r, .int .i64 c, .slice a l cap]] w (GivesZ1 E w 0 0) := by
 obtain ⟨W0, hW⟩ : ∃ W0, (w.alloc (.cells #[.int .i64 r, .int .i64 c, .slice a l cap] 24)).alloc zbox = W0 := ⟨_, rfl⟩
 obtain ⟨b0, sz0⟩ := alloc2 w (.cells #[.int .i64 r, .int .i64 c, .slice a l cap] 24) zbox
 rw [hW] at b0 sz0
 have PR : Hid (Duo W0 (w.heap.size + 1) (.bool false) (.slice none 0 0)) := by
  unfold Hid; rw [← hW]
  have := Duo.new (w.alloc (.cells #[.int .i64 r, .int .i64 c, .slice a l cap] 24)) (.bool false) (.slice none 0 0)
  simpa using this
 have HC := hid (h W0 b0)
 have G := hid b0
 have EW := hid hW
 have SZ := hid sz0
 have hne : ¬ E = 0 := by omega
 have hnb : (E != 0) = true := by simp; omega
 clear h b0 sz0 hW hE
 go_enter Tryz.func6, Tryz.ntmps6
 go_wp2_with fail
 rw [EW.out]
 refine HC.out.mono ?_
 rintro e w1 ⟨rfl, b⟩
 have PR1 := hid (PR.out.step b)
 have r0 := PR1.out.c0
 have r1 := PR1.out.c1
 have f0 := PR1.out.fz 0
 have f1 := PR1.out.fz 1
 have FIN : Hid (GivesZ1 E w 0 0 (.returned (.tuple #[.agg #[.bool false, .slice none 0 0], .int .i64 E])) ((w1.setCell ⟨w.heap.size + 1, 0, none⟩ (.bool false)).setCell ⟨w.heap.size + 1, 1, none⟩ (.slice none 0 0))) :=
  ⟨_, rfl, zm_nil _ _ _, bset (bset (below_step G.out b) (by omega)) (by omega)⟩
 clear HC b
 go_wp2_with fail
 exact bodyPost_ret (zback1 Tryz.results6 (PR1.out.set _ _) _ (by rfl) (by rfl)) rfl FIN.out
theorem det_un {w : World} {r c : Int} {a : Option Addr} {l cap : Nat} (h : ¬ Snd r c l) : Calls Tryz.prog 6 #[.agg #[.int .i64 r, .int .i64 c, .slice a l cap]] w (GivesZ1 1 w 0 0) := det_of (.inl rfl) fun w' _ => csq_no h
theorem det_fit {w : World} {v : Value} {r c : Nat} {zs : List Int} {k : Nat} (h : Mx w v r c zs k) (hrc : r ≠ c) : Calls Tryz.prog 6 #[v] w (GivesZ1 2 w 0 0) := by
 have M0 := h
 obtain ⟨aa, ca, rfl, hr, hc⟩ := h.form
 exact det_of (.inr rfl) fun w' b => csq_fit (M0.now b) hrc
theorem det_sq {w : World} {v : Value} {n : Nat} {zs : List Int} {k : Nat} (h : Mx w v n n zs k) (hk : k ≤ 4000000000) : Calls Tryz.prog 6 #[v] w (GivesZ1 0 w (det n (en n zs)) (64 * k + 7)) := by
 have M0 := h
 obtain ⟨aa, ca, rfl, hn, -⟩ := h.form
 obtain ⟨la, hla⟩ : ∃ la, n * n = la := ⟨_, rfl⟩
 rw [hla] at M0 ⊢
 obtain ⟨W0, hW⟩ : ∃ W0, (w.alloc (matO n n (.slice aa la ca))).alloc zbox = W0 := ⟨_, rfl⟩
 obtain ⟨b0, sz0⟩ := alloc2 w (matO n n (.slice aa la ca)) zbox
 rw [hW] at b0 sz0
 have PR : Hid (Duo W0 (w.heap.size + 1) (.bool false) (.slice none 0 0)) := by
  unfold Hid; rw [← hW]
  have := Duo.new (w.alloc (matO n n (.slice aa la ca))) (.bool false) (.slice none 0 0)
  simpa using this
 have PM : Hid (Cel W0 w.heap.size 24 (matc n n (.slice aa la ca))) := by
  unfold Hid; rw [← hW]
  exact (Cel.new w 24 (matc n n (.slice aa la ca))).step ((Below.refl _ _).alloc (Nat.le_refl _) _)
 have M1 := hid (M0.now b0)
 have HC := hid (csq_yes M1.out)
 have G := hid b0
 have EW := hid hW
 have SZ := hid sz0
 have HKK := hid hk
 clear h M0 b0 sz0 hW hk hla
 go_enter Tryz.func6, Tryz.ntmps6
 go_wp2_with fail
 rw [EW.out]
 clear EW
 refine HC.out.mono ?_
 rintro e w1 ⟨rfl, b⟩
 replace PR := hid (PR.out.step b)
 replace PM := hid (PM.out.step b)
 have M1x := hid (M1.out.now b)
 have G1 := hid (below_step G.out b)
 have lz1 := b.size
 have x0 := PM.out.at (i := 0) rfl
 have x1 := PM.out.at (i := 1) rfl
 have x2 := PM.out.at (i := 2) rfl
 clear HC b M1 G
 go_upto_region 4 with fail
 have KB : Hid (∀ w', Below w1.heap.size w1 w' → w'.cell? ⟨w.heap.size, 0, none⟩ = some (.int .i64 (n : Int)) ∧ w'.cell? ⟨w.heap.size, 1, none⟩ = some (.int .i64 (n : Int)) ∧ w'.cell? ⟨w.heap.size, 2, none⟩ = some (.slice aa la ca)) := fun w' h => ⟨cnow h x0, cnow h x1, cnow h x2⟩
 refine wp_region_tail (fun w' => w'.cell? ⟨w.heap.size, 0, none⟩ = some (.int .i64 (n : Int)) ∧ w'.cell? ⟨w.heap.size, 1, none⟩ = some (.int .i64 (n : Int)) ∧ w'.cell? ⟨w.heap.size, 2, none⟩ = some (.slice aa la ca)) 5 (by kernel_rfl) ?_
 obtain ⟨D1, hD⟩ : ∃ D1, w1.drew = D1 := ⟨_, rfl⟩
 have GB : Hid (Below w1.heap.size w1 D1) := by unfold Hid; rw [← hD]; exact (Below.refl _ _).drew
 rw [hD]
 clear hD
 have D1Z := GB.out.size
 refine wpAnyT_take (i := 0) (oi := { dst := some 11, op := Op.load 24 (Operand.tmp 1), type := 24, pos := "bareiss.go:17", after := #[], guard := none }) (v := (matv n n (.slice aa la ca))) rfl (by kernel_rfl) (fun _ _ _ h => h) (Or.inl ⟨by rfl, ?_⟩) (KB.out _ GB.out) ?_
 ·intro w hSw
  (try dsimp only at hSw)
  go_simp
 simp only [Act.put, List.setIfInBounds_toArray, List.set_cons_zero, List.set_cons_succ]
 refine wpAnyT_take (i := 2) (oi := { dst := some 13, op := Op.fieldAddr 24 (Operand.tmp 1) 0, type := 0, pos := "bareiss.go:17", after := #[], guard := none }) (v := (.pointer (some ⟨w.heap.size, 0, none⟩))) rfl (by kernel_rfl) (fun _ _ _ h => h) (Or.inl ⟨by rfl, ?_⟩) (KB.out _ GB.out) ?_
 ·intro w hSw
  (try dsimp only at hSw)
  go_simp
 simp only [Act.put, List.setIfInBounds_toArray, List.set_cons_zero, List.set_cons_succ]
 refine wpAnyT_take (i := 3) (oi := { dst := some 14, op := Op.load 3 (Operand.tmp 13), type := 3, pos := "bareiss.go:17", after := #[{ on := 2, ground := Ground.data }], guard := none }) (v := (.int .i64 (n : Int))) rfl (by kernel_rfl) (fun _ _ _ h => h) (Or.inl ⟨by rfl, ?_⟩) (KB.out _ GB.out) ?_
 ·intro w hSw
  (try dsimp only at hSw)
  go_simp
 simp only [Act.put, List.setIfInBounds_toArray, List.set_cons_zero, List.set_cons_succ]
 refine wpAnyT_one (i := 1) (o := { dst := some 12, op := Op.call { callee := Callee.value (Operand.func 23), args := #[Operand.tmp 11], argTypes := #[24] }, type := 53, pos := "bareiss.go:17", after := #[{ on := 0, ground := Ground.data }], guard := none }) (by kernel_rfl) rfl (fun K hK => ?_)
 go_simp
 go_at_call 23
 refine (stairsOf_any (M1x.out.now GB.out) HKK.out).mono ?_
 rintro e w2 ⟨Bs, B, rs, cs, odd, ks, rfl, hs1, hz1, hb1, hb2, b⟩
 have lz2 := (show Below _ _ _ from b).size
 replace GB := hid (below_step GB.out b)
 have HS1 := hid hs1
 have HZ1 := hid hz1
 clear hs1 hz1 hb1 hb2
 clear b
 refine hK.out _ _ (fun _ => KB.out _ GB.out) ?_
 clear hK
 refine wpAnyT_one (i := 4) (o := { dst := some 15, op := Op.call { callee := Callee.value (Operand.func 24), args := #[Operand.tmp 12, Operand.tmp 14], argTypes := #[53, 3] }, type := 29, pos := "bareiss.go:17", after := #[{ on := 1, ground := Ground.data }, { on := 3, ground := Ground.data }, { on := 1, ground := Ground.chain }], guard := none }) (by kernel_rfl) rfl (fun K hK => ?_)
 go_simp
 go_at_call 24
 refine (leading_any (kk := n) HS1.out HZ1.out (by omega) hn (Nat.le_trans HZ1.out.le hn) (by omega)).mono ?_
 rintro e w3 ⟨r0, rfl, m1, b⟩
 have lz3 := (show Below _ _ _ from b).size
 replace GB := hid (below_step GB.out b)
 obtain ⟨nr, xr, ar, cr, rfl⟩ := m1.parts
 have M1 := hid m1
 clear m1
 clear b
 refine hK.out _ _ (fun _ => KB.out _ GB.out) ?_
 clear hK
 refine wpAnyT_one (i := 5) (o := { dst := none, op := Op.store 29 (Operand.tmp 2) (Operand.tmp 15), type := 0, pos := "bareiss.go:17", after := #[{ on := 4, ground := Ground.data }, { on := 4, ground := Ground.chain }, { on := 0, ground := Ground.phase }, { on := 1, ground := Ground.phase }, { on := 2, ground := Ground.phase }, { on := 3, ground := Ground.phase }, { on := 4, ground := Ground.phase }], guard := none }) (by kernel_rfl) rfl (fun K hK => ?_)
 replace PR := hid (PR.out.step GB.out)
 have e0 := PR.out.c0
 have e1 := PR.out.c1
 have e2 := PR.out.fz 0
 have e3 := PR.out.fz 1
 go_simp
 clear e0 e1 e2 e3
 obtain ⟨V4, hW⟩ : ∃ V4, ((w3.setCell ⟨w.heap.size + 1, 0, none⟩ (.bool nr)).setCell ⟨w.heap.size + 1, 1, none⟩ (.slice ar xr.length cr)) = V4 := ⟨_, rfl⟩
 have FIN : Hid (GivesZ1 0 w (det n (en n zs)) (64 * k + 7) (.returned (.tuple #[.agg #[.bool nr, .slice ar xr.length cr], .int .i64 0])) V4 ∧ Duo V4 (w.heap.size + 1) (.bool nr) (.slice ar xr.length cr)) := by
  unfold Hid
  rw [← hW]
  have hd := HZ1.out.lead (Nat.le_refl n)
  have g := zfin13 M1.out (below_step G1.out GB.out) (show w.heap.size ≤ w.heap.size + 1 by omega) (show w.heap.size + 1 < _ by have := SZ.out; have := lz1; have := D1Z; omega)
  rw [show leadS (en n zs) rs cs odd n = det n (en n zs) from hd.symm] at g
  obtain ⟨_, e, g1, g2⟩ := g
  simp only [Ending.returned.injEq] at e
  subst e
  exact ⟨⟨_, rfl, g1, g2⟩, PR.out.set _ _⟩
 rw [hW]
 clear hW
 refine hK.out _ _ (fun h => absurd h (by decide)) ?_
 clear hK
 try simp only [Act.put]
 refine wpAnyT_one (i := 6) (o := { dst := some 3, op := Op.assign (Operand.const (Value.int IntKind.i64 0)), type := 30, pos := "bareiss.go:17", after := #[{ on := 5, ground := Ground.chain }, { on := 0, ground := Ground.phase }, { on := 1, ground := Ground.phase }, { on := 2, ground := Ground.phase }, { on := 3, ground := Ground.phase }, { on := 4, ground := Ground.phase }, { on := 5, ground := Ground.phase }], guard := none }) (by kernel_rfl) rfl (fun K hK => ?_)
 go_simp
 refine hK.out _ _ (fun h => absurd h (by decide)) ?_
 clear hK
 try simp only [Act.put]
 refine wpAnyT_done (by kernel_rfl) ?_ _
 clear HS1 HZ1 M1 GB KB
 go_wp2_with fail
 exact bodyPost_ret (zback1 Tryz.results6 FIN.out.2 _ (by rfl) (by rfl)) rfl FIN.out.1
open Go.RowKit Go.Shelf
attribute [local go_sem] Oper.semAt_some
end Go.Proofs.YtnpcfohimlfbdaaGreat
namespace Go.Proofs.YtnpcfohimlfbdaaGreat
open Go.RowKit

theorem mx_four {V : World} {g : Nat} {n0 n1 n2 n3 : Bool} {a0 a1 a2 a3 : Option Addr} {l0 l1 l2 l3 c0 c1 c2 c3 : Nat} {z0 z1 z2 z3 : Int} {k : Nat} (d : Cel V g 29 [.bool n0, .slice a0 l0 c0, .bool n1, .slice a1 l1 c1, .bool n2, .slice a2 l2 c2, .bool n3, .slice a3 l3 c3])
  (h0 : Zi V (.agg #[.bool n0, .slice a0 l0 c0]) z0 k) (h1 : Zi V (.agg #[.bool n1, .slice a1 l1 c1]) z1 k) (h2 : Zi V (.agg #[.bool n2, .slice a2 l2 c2]) z2 k) (h3 : Zi V (.agg #[.bool n3, .slice a3 l3 c3]) z3 k) :
  Mx V (.agg #[.int .i64 2, .int .i64 2, .slice (some ⟨g, 0, none⟩) 4 4]) 2 2 [z0, z1, z2, z3] k := by
 have ar : Arr V g [(.bool n0, .slice a0 l0 c0), (.bool n1, .slice a1 l1 c1), (.bool n2, .slice a2 l2 c2), (.bool n3, .slice a3 l3 c3)] := ⟨d, fun p hp => by
  simp at hp
  rcases hp with rfl | rfl | rfl | rfl <;> exact ⟨_, _, _, _, rfl⟩⟩
 refine ⟨_, _, rfl, ar.prs (Nat.zero_le _) (by simp) (Nat.le_refl _), ⟨rfl, fun j p z hp hz => ?_⟩, rfl, by decide, by decide⟩
 match j, hp, hz with
 | 0, hp, hz => simp at hp hz; subst hp hz; exact h0
 | 1, hp, hz => simp at hp hz; subst hp hz; exact h1
 | 2, hp, hz => simp at hp hz; subst hp hz; exact h2
 | 3, hp, hz => simp at hp hz; subst hp hz; exact h3
 | j + 4, hp, hz => simp at hp




theorem snd13 {r c : Int} {l : Nat} (h : Snd r c l) : ∃ a b : Nat, r = (a : Int) ∧ c = (b : Int) := by
 obtain ⟨h1, h2, h3, h4, h5⟩ := h
 exact ⟨r.toNat, c.toNat, by omega, by omega⟩
theorem Raw.mx13 {w : World} {v : Value} {r c : Nat} {l : Nat} {zs : List Int} (h : Raw w v (r : Int) (c : Int) l zs) (hs : Snd (r : Int) (c : Int) l) : Mx w v r c zs 1048576 ∧ l = r * c := ⟨h.mx hs, by have := hs.2.2.2.2; exact Int.ofNat.inj this⟩
def Tru (w : World) (e : Ending) (w' : World) : Prop := e = .returned (.bool true) ∧ Below w.heap.size w w'
theorem Mx.off13 {w : World} {v : Value} {r c : Nat} {zs : List Int} {k b i : Nat} {L : List Value} {u : Value} (h : Mx w v r c zs k) (d : Cel w b 24 L) (hL : ∀ (j : Nat) (x : Value), L[j]? = some x → (∀ n, x ≠ .bool n) ∧ ∀ y, x ≠ .int .u64 y) : Mx (w.setCell ⟨b, i, none⟩ u) v r c zs k := by
 obtain ⟨at_, ps, h1, h2, h3, h4⟩ := h
 have hcell : ∀ o x, w.cell? ⟨b, o, none⟩ = some x → L[o]? = some x := fun o x e => by
  have d' : w.heap[b]? = some (.cells L.toArray 24 (0, 0)) := d
  simpa [World.cell?, d'] using e
 have wk : Wk w (w.setCell ⟨b, i, none⟩ u) := by
  refine ⟨by simp, fun g off x e => ?_⟩
  have hne : g ≠ b := fun q => by
   subst q
   exact (hL off _ (hcell off _ e)).2 x rfl
  exact (World.cell?_setCell_other _ _ _ _ (by simp <;> omega)).trans e
 refine ⟨at_, ps, h1, ?_, h3.wk wk, h4⟩
 obtain ⟨a', c', e1, e2, e3, e4, e5⟩ := h2
 refine ⟨a', c', e1, e2, e3, e4, ?_⟩
 rcases e5 with e5 | ⟨b', off, e6, e7, e8, e9⟩
 ·exact .inl e5
 ·refine .inr ⟨b', off, e6, e7, by simpa using e8, fun j p hp => ?_⟩
  have hne : b' ≠ b := fun q => by
   subst q
   obtain ⟨n1, a1, l1, c1, e⟩ := h3.isI p (List.mem_of_getElem? hp)
   have q1 := (e9 j p hp).1
   rw [show p.1 = .bool n1 by rw [e]] at q1
   exact (hL _ _ (hcell _ _ q1)).1 n1 rfl
  rw [World.cell?_setCell_other _ _ _ _ (by simp <;> omega), World.cell?_setCell_other _ _ _ _ (by simp <;> omega)]
  exact e9 j p hp
theorem mats13 {x0 x1 : Int} {a : Option Addr} {l n : Nat} : ∀ (j : Nat) (x : Value), [Value.int .i64 x0, .int .i64 x1, .slice a l n][j]? = some x → (∀ n, x ≠ .bool n) ∧ ∀ y, x ≠ .int .u64 y := fun j x h => by
 match j, h with
 | 0, h => simp at h; subst h; exact ⟨fun _ q => (by cases q), fun _ q => (by cases q)⟩
 | 1, h => simp at h; subst h; exact ⟨fun _ q => (by cases q), fun _ q => (by cases q)⟩
 | 2, h => simp at h; subst h; exact ⟨fun _ q => (by cases q), fun _ q => (by cases q)⟩
 | j + 3, h => simp at h
end Go.Proofs.YtnpcfohimlfbdaaGreat
