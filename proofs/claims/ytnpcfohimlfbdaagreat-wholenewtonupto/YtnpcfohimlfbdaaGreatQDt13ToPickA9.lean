/-
 QDt13ToPickA9: Dt13, Ld13, Wk13, PickA9, joined.
-/
import Derived.Test.YtnpcfohimlfbdaaGreatQDe13
import Derived.Test.YtnpcfohimlfbdaaGreatQSt11ToChkN9
import Derived.Test.YtnpcfohimlfbdaaGreatQEach9ToColsP9
import Derived.Test.YtnpcfohimlfbdaaGreatQProd9ToTailL
import Derived.Test.YtnpcfohimlfbdaaGreatQExact0ToZlaw0
import Derived.Test.YtnpcfohimlfbdaaGreatQSo13ToInts9

set_option maxRecDepth 100000
set_option maxHeartbeats 6400000
set_option linter.unusedVariables false
set_option linter.unusedSimpArgs false
namespace Go.Proofs.YtnpcfohimlfbdaaGreat
open Go.RowKit

theorem Stz.le {A : Nat → Nat → Int} {n i : Nat} {rs cs : List Nat} {odd : Bool} (h : Stz A n i rs cs odd) : rs.length ≤ i := by
 have : rs.length ≤ (List.range i).length := List.Nodup.length_le_of_subset (h.up.imp fun hab => Nat.ne_of_lt hab) fun r hr => by simpa using h.lt r hr
 simpa using this
theorem csq_yes {w : World} {v : Value} {n : Nat} {zs : List Int} {k : Nat} (h : Mx w v n n zs k) : Calls Tryz.prog 22 #[v] w fun e w' => e = .returned (.int .i64 0) ∧ Below w.heap.size w w' := by
 have M0 := h
 obtain ⟨aa, ca, rfl, hr, hc⟩ := h.form
 obtain ⟨la, hla⟩ : ∃ la, n * n = la := ⟨_, rfl⟩
 rw [hla] at M0 ⊢
 obtain ⟨W0, hW⟩ : ∃ W0, w.alloc (matO n n (.slice aa la ca)) = W0 := ⟨_, rfl⟩
 obtain ⟨b0, sz0⟩ := alo1 w (matO n n (.slice aa la ca))
 rw [hW] at b0 sz0
 have P0 : Hid (Cel W0 w.heap.size 24 (matc n n (.slice aa la ca))) := by unfold Hid; rw [← hW]; exact Cel.new w _ _
 have HC := hid (check_yes (M0.now b0))
 have G := hid b0
 have EW := hid hW
 clear h M0 b0 sz0 hW hla
 go_enter Tryz.func22, Tryz.ntmps22
 go_wp2_with fail
 rw [EW.out]
 refine HC.out.mono ?_
 rintro e w1 ⟨rfl, b⟩
 have G1 := hid (below_step G.out b)
 have x0 := (P0.out.step b).at (i := 0) rfl
 have x1 := (P0.out.step b).at (i := 1) rfl
 clear HC b
 go_wp2
 go_ret
 exact ⟨rfl, G1.out⟩
theorem det_sq {w : World} {v : Value} {n : Nat} {zs : List Int} {k : Nat} (h : Mx w v n n zs k) (hk : k ≤ 4000000000) : Calls Tryz.prog 6 #[v] w (GivesZ1 0 w (det n (en n zs)) (64 * k + 7)) := by
 have M0 := h
 obtain ⟨aa, ca, rfl, hn, -⟩ := h.form
 obtain ⟨la, hla⟩ : ∃ la, n * n = la := ⟨_, rfl⟩
 rw [hla] at M0 ⊢
 obtain ⟨W0, hW⟩ : ∃ W0, (w.alloc (matO n n (.slice aa la ca))).alloc zbox = W0 := ⟨_, rfl⟩
 obtain ⟨b0, sz0⟩ := alloc2 w (matO n n (.slice aa la ca)) zbox
 rw [hW] at b0 sz0
 have PR : Hid (Duo W0 (w.heap.size + 1) (.bool false) (.slice none 0 0)) := by
  unfold Hid; rw [← hW]
  have := Duo.new (w.alloc (matO n n (.slice aa la ca))) (.bool false) (.slice none 0 0)
  simpa using this
 have PM : Hid (Cel W0 w.heap.size 24 (matc n n (.slice aa la ca))) := by
  unfold Hid; rw [← hW]
  exact (Cel.new w 24 (matc n n (.slice aa la ca))).step ((Below.refl _ _).alloc (Nat.le_refl _) _)
 have M1 := hid (M0.now b0)
 have HC := hid (csq_yes M1.out)
 have G := hid b0
 have EW := hid hW
 have SZ := hid sz0
 have HKK := hid hk
 clear h M0 b0 sz0 hW hk hla
 go_enter Tryz.func6, Tryz.ntmps6
 go_wp2_with fail
 rw [EW.out]
 clear EW
 refine HC.out.mono ?_
 rintro e w1 ⟨rfl, b⟩
 replace PR := hid (PR.out.step b)
 replace PM := hid (PM.out.step b)
 have M1x := hid (M1.out.now b)
 have G1 := hid (below_step G.out b)
 have lz1 := b.size
 have x0 := PM.out.at (i := 0) rfl
 have x1 := PM.out.at (i := 1) rfl
 have x2 := PM.out.at (i := 2) rfl
 clear HC b M1 G
 go_upto_region 4 with fail
 have KB : Hid (∀ w', Below w1.heap.size w1 w' → w'.cell? ⟨w.heap.size, 0, none⟩ = some (.int .i64 (n : Int)) ∧ w'.cell? ⟨w.heap.size, 1, none⟩ = some (.int .i64 (n : Int)) ∧ w'.cell? ⟨w.heap.size, 2, none⟩ = some (.slice aa la ca)) := fun w' h => ⟨cnow h x0, cnow h x1, cnow h x2⟩
 refine wp_region_tail (fun w' => w'.cell? ⟨w.heap.size, 0, none⟩ = some (.int .i64 (n : Int)) ∧ w'.cell? ⟨w.heap.size, 1, none⟩ = some (.int .i64 (n : Int)) ∧ w'.cell? ⟨w.heap.size, 2, none⟩ = some (.slice aa la ca)) 5 (by kernel_rfl) ?_
 obtain ⟨D1, hD⟩ : ∃ D1, w1.drew = D1 := ⟨_, rfl⟩
 have GB : Hid (Below w1.heap.size w1 D1) := by unfold Hid; rw [← hD]; exact (Below.refl _ _).drew
 rw [hD]
 clear hD
 have D1Z := GB.out.size
 refine wpAnyT_take (i := 0) (oi := { dst := some 11, op := Op.load 24 (Operand.tmp 1), type := 24, pos := "bareiss.go:17", after := #[], guard := none }) (v := (matv n n (.slice aa la ca))) rfl (by kernel_rfl) (fun _ _ _ h => h) (Or.inl ⟨by rfl, ?_⟩) (KB.out _ GB.out) ?_
 ·intro w hSw
  (try dsimp only at hSw)
  go_simp
 simp only [Act.put, List.setIfInBounds_toArray, List.set_cons_zero, List.set_cons_succ]
 refine wpAnyT_take (i := 2) (oi := { dst := some 13, op := Op.fieldAddr 24 (Operand.tmp 1) 0, type := 0, pos := "bareiss.go:17", after := #[], guard := none }) (v := (.pointer (some ⟨w.heap.size, 0, none⟩))) rfl (by kernel_rfl) (fun _ _ _ h => h) (Or.inl ⟨by rfl, ?_⟩) (KB.out _ GB.out) ?_
 ·intro w hSw
  (try dsimp only at hSw)
  go_simp
 simp only [Act.put, List.setIfInBounds_toArray, List.set_cons_zero, List.set_cons_succ]
 refine wpAnyT_take (i := 3) (oi := { dst := some 14, op := Op.load 3 (Operand.tmp 13), type := 3, pos := "bareiss.go:17", after := #[{ on := 2, ground := Ground.data }], guard := none }) (v := (.int .i64 (n : Int))) rfl (by kernel_rfl) (fun _ _ _ h => h) (Or.inl ⟨by rfl, ?_⟩) (KB.out _ GB.out) ?_
 ·intro w hSw
  (try dsimp only at hSw)
  go_simp
 simp only [Act.put, List.setIfInBounds_toArray, List.set_cons_zero, List.set_cons_succ]
 refine wpAnyT_one (i := 1) (o := { dst := some 12, op := Op.call { callee := Callee.value (Operand.func 23), args := #[Operand.tmp 11], argTypes := #[24] }, type := 53, pos := "bareiss.go:17", after := #[{ on := 0, ground := Ground.data }], guard := none }) (by kernel_rfl) rfl (fun K hK => ?_)
 go_simp
 go_at_call 23
 refine (stairsOf_any (M1x.out.now GB.out) HKK.out).mono ?_
 rintro e w2 ⟨Bs, B, rs, cs, odd, ks, rfl, hs1, hz1, hb1, hb2, b⟩
 have lz2 := (show Below _ _ _ from b).size
 replace GB := hid (below_step GB.out b)
 have HS1 := hid hs1
 have HZ1 := hid hz1
 clear hs1 hz1 hb1 hb2
 clear b
 refine hK.out _ _ (fun _ => KB.out _ GB.out) ?_
 clear hK
 refine wpAnyT_one (i := 4) (o := { dst := some 15, op := Op.call { callee := Callee.value (Operand.func 24), args := #[Operand.tmp 12, Operand.tmp 14], argTypes := #[53, 3] }, type := 29, pos := "bareiss.go:17", after := #[{ on := 1, ground := Ground.data }, { on := 3, ground := Ground.data }, { on := 1, ground := Ground.chain }], guard := none }) (by kernel_rfl) rfl (fun K hK => ?_)
 go_simp
 go_at_call 24
 refine (leading_any (kk := n) HS1.out HZ1.out (by omega) hn (Nat.le_trans HZ1.out.le hn) (by omega)).mono ?_
 rintro e w3 ⟨r0, rfl, m1, b⟩
 have lz3 := (show Below _ _ _ from b).size
 replace GB := hid (below_step GB.out b)
 obtain ⟨nr, xr, ar, cr, rfl⟩ := m1.parts
 have M1 := hid m1
 clear m1
 clear b
 refine hK.out _ _ (fun _ => KB.out _ GB.out) ?_
 clear hK
 refine wpAnyT_one (i := 5) (o := { dst := none, op := Op.store 29 (Operand.tmp 2) (Operand.tmp 15), type := 0, pos := "bareiss.go:17", after := #[{ on := 4, ground := Ground.data }, { on := 4, ground := Ground.chain }, { on := 0, ground := Ground.phase }, { on := 1, ground := Ground.phase }, { on := 2, ground := Ground.phase }, { on := 3, ground := Ground.phase }, { on := 4, ground := Ground.phase }], guard := none }) (by kernel_rfl) rfl (fun K hK => ?_)
 replace PR := hid (PR.out.step GB.out)
 have e0 := PR.out.c0
 have e1 := PR.out.c1
 have e2 := PR.out.fz 0
 have e3 := PR.out.fz 1
 go_simp
 clear e0 e1 e2 e3
 obtain ⟨V4, hW⟩ : ∃ V4, ((w3.setCell ⟨w.heap.size + 1, 0, none⟩ (.bool nr)).setCell ⟨w.heap.size + 1, 1, none⟩ (.slice ar xr.length cr)) = V4 := ⟨_, rfl⟩
 have FIN : Hid (GivesZ1 0 w (det n (en n zs)) (64 * k + 7) (.returned (.tuple #[.agg #[.bool nr, .slice ar xr.length cr], .int .i64 0])) V4 ∧ Duo V4 (w.heap.size + 1) (.bool nr) (.slice ar xr.length cr)) := by
  unfold Hid
  rw [← hW]
  have hd := HZ1.out.lead (Nat.le_refl n)
  have g := zfin13 M1.out (below_step G1.out GB.out) (show w.heap.size ≤ w.heap.size + 1 by omega) (show w.heap.size + 1 < _ by have := SZ.out; have := lz1; have := D1Z; omega)
  rw [show leadS (en n zs) rs cs odd n = det n (en n zs) from hd.symm] at g
  obtain ⟨_, e, g1, g2⟩ := g
  simp only [Ending.returned.injEq] at e
  subst e
  exact ⟨⟨_, rfl, g1, g2⟩, PR.out.set _ _⟩
 rw [hW]
 clear hW
 refine hK.out _ _ (fun h => absurd h (by decide)) ?_
 clear hK
 try simp only [Act.put]
 refine wpAnyT_one (i := 6) (o := { dst := some 3, op := Op.assign (Operand.const (Value.int IntKind.i64 0)), type := 30, pos := "bareiss.go:17", after := #[{ on := 5, ground := Ground.chain }, { on := 0, ground := Ground.phase }, { on := 1, ground := Ground.phase }, { on := 2, ground := Ground.phase }, { on := 3, ground := Ground.phase }, { on := 4, ground := Ground.phase }, { on := 5, ground := Ground.phase }], guard := none }) (by kernel_rfl) rfl (fun K hK => ?_)
 go_simp
 refine hK.out _ _ (fun h => absurd h (by decide)) ?_
 clear hK
 try simp only [Act.put]
 refine wpAnyT_done (by kernel_rfl) ?_ _
 clear HS1 HZ1 M1 GB KB
 go_wp2_with fail
 exact bodyPost_ret (zback1 Tryz.results6 FIN.out.2 _ (by rfl) (by rfl)) rfl FIN.out.1
open Go.RowKit Go.Shelf
attribute [local go_sem] Oper.semAt_some
end Go.Proofs.YtnpcfohimlfbdaaGreat
namespace Go.Proofs.YtnpcfohimlfbdaaGreat
open Go.RowKit

theorem mx_four {V : World} {g : Nat} {n0 n1 n2 n3 : Bool} {a0 a1 a2 a3 : Option Addr} {l0 l1 l2 l3 c0 c1 c2 c3 : Nat} {z0 z1 z2 z3 : Int} {k : Nat} (d : Cel V g 29 [.bool n0, .slice a0 l0 c0, .bool n1, .slice a1 l1 c1, .bool n2, .slice a2 l2 c2, .bool n3, .slice a3 l3 c3])
  (h0 : Zi V (.agg #[.bool n0, .slice a0 l0 c0]) z0 k) (h1 : Zi V (.agg #[.bool n1, .slice a1 l1 c1]) z1 k) (h2 : Zi V (.agg #[.bool n2, .slice a2 l2 c2]) z2 k) (h3 : Zi V (.agg #[.bool n3, .slice a3 l3 c3]) z3 k) :
  Mx V (.agg #[.int .i64 2, .int .i64 2, .slice (some ⟨g, 0, none⟩) 4 4]) 2 2 [z0, z1, z2, z3] k := by
 have ar : Arr V g [(.bool n0, .slice a0 l0 c0), (.bool n1, .slice a1 l1 c1), (.bool n2, .slice a2 l2 c2), (.bool n3, .slice a3 l3 c3)] := ⟨d, fun p hp => by
  simp at hp
  rcases hp with rfl | rfl | rfl | rfl <;> exact ⟨_, _, _, _, rfl⟩⟩
 refine ⟨_, _, rfl, ar.prs (Nat.zero_le _) (by simp) (Nat.le_refl _), ⟨rfl, fun j p z hp hz => ?_⟩, rfl, by decide, by decide⟩
 match j, hp, hz with
 | 0, hp, hz => simp at hp hz; subst hp hz; exact h0
 | 1, hp, hz => simp at hp hz; subst hp hz; exact h1
 | 2, hp, hz => simp at hp hz; subst hp hz; exact h2
 | 3, hp, hz => simp at hp hz; subst hp hz; exact h3
 | j + 4, hp, hz => simp at hp

/-- An entry of a list of lists. -/
def ent9 (zss : List (List Int)) (i j : Nat) : Int := (zss.getD i []).getD j 0
theorem pick11_any {w : World} {B pb ib k i j : Nat} {v : Value} {pss : List (List (Value × Value))} {zss : List (List Int)} (hp : w.cell? ⟨pb, 0, none⟩ = some v) (hv : Prr B w v pss) (hz : Ziss w pss zss k) (hi : w.cell? ⟨ib, 0, none⟩ = some (.int .i64 (i : Int))) (hil : i < pss.length) (hjl : j < (zss.getD i []).length) :
  Calls Tryz.prog 106 #[.int .i64 (j : Int), .pointer (some ⟨pb, 0, none⟩), .pointer (some ⟨ib, 0, none⟩)] w (GivesZ w (ent9 zss i j) k) := by
 obtain ⟨W0, hW⟩ : ∃ W0, w.alloc zbox = W0 := ⟨_, rfl⟩
 obtain ⟨b0, sz0⟩ := alo1 w zbox
 rw [hW] at b0 sz0
 have P3 : Hid (Duo W0 w.heap.size (.bool false) (.slice none 0 0)) := by unfold Hid; rw [← hW]; exact Duo.new w _ _
 obtain ⟨a0, c0, rfl, hc0, hn0, hf0⟩ := hv.form
 obtain ⟨b1, o1, rfl⟩ := hf0 (fun e => by rw [e] at hil; simp at hil)
 have hpi : pss[i]? = some pss[i] := List.getElem?_eq_getElem hil
 obtain ⟨u, k0, pu⟩ := hv.at (i := i) hpi
 have hzl := zl_of pu (hz.2 i _ hpi)
 obtain ⟨a1, c1, rfl, hc1, hn1, hf1⟩ := hzl.form9
 obtain ⟨b2, o2, rfl⟩ := hf1 (fun e => by rw [e] at hjl; simp at hjl)
 obtain ⟨nf, xf, adf, qf, e0, e1, zf⟩ := hzl.at9 (i := j) hjl
 rw [getD_at] at zf
 have HS := hid (least_z (zf.now b0))
 have k1 : (w.alloc zbox).cell? ⟨pb, 0, none⟩ = some (.slice (some ⟨b1, o1, none⟩) pss.length c0) := by rw [hW]; exact cnow b0 hp
 have k2 : (w.alloc zbox).cell? ⟨ib, 0, none⟩ = some (.int .i64 (i : Int)) := by rw [hW]; exact cnow b0 hi
 have k3 : (w.alloc zbox).cell? ⟨b1, o1 + i, none⟩ = some (.slice (some ⟨b2, o2, none⟩) (zss.getD i []).length c1) := by rw [hW]; exact cnow b0 k0
 have k4 : (w.alloc zbox).cell? ⟨b2, o2 + j * 2, none⟩ = some (.bool nf) := by rw [hW]; exact cnow b0 e0
 have k5 : (w.alloc zbox).cell? ⟨b2, o2 + j * 2 + 1, none⟩ = some (.slice adf xf.length qf) := by rw [hW]; exact cnow b0 e1
 have hi' : (i : Int) < (pss.length : Int) := by omega
 have hj' : (j : Int) < ((zss.getD i []).length : Int) := by omega
 have G0 := hid b0
 have EW := hid hW
 have SZ := hid sz0
 have EE : Hid (ent9 zss i j = (zss.getD i []).getD j 0) := rfl
 rw [EE.out]
 clear b0 hW sz0 hp hv hz hi hf0 hf1 hpi k0 pu hzl e0 e1 zf EE
 generalize (zss.getD i []).getD j 0 = dd at *
 generalize (zss.getD i []).length = ln at *
 generalize pss.length = lp at *
 go_enter Tryz.func106, Tryz.ntmps106
 go_wp2_with fail
 rw [EW.out]
 refine HS.out.mono ?_
 rintro e w1 ⟨r, rfl, m1, b⟩
 obtain ⟨nr, xr, ar, cr, rfl⟩ := m1.parts
 have P31 := hid (P3.out.step b)
 have G1 := hid (below_step G0.out b)
 have HM := hid m1
 have HB : Hid (w.heap.size < W0.heap.size) := by unfold Hid; rw [SZ.out]; omega
 have r0 := P31.out.c0
 have r1 := P31.out.c1
 have f0 := P31.out.fz 0
 have f1 := P31.out.fz 1
 clear HS P3 G0 EW m1 b SZ k1 k2 k3 k4 k5
 go_wp2
 exact bodyPost_ret (zback Tryz.results106 (P31.out.set _ _) _ (by rfl)) rfl ⟨_, rfl, (HM.out.mono (Nat.le_of_lt HB.out)).box P31.out _ _, bset (bset G1.out (Nat.le_refl _)) (Nat.le_refl _)⟩

abbrev fnPick2 (pb ib : Nat) : Value := .func (.func 106) #[] #[.pointer (some ⟨pb, 0, none⟩), .pointer (some ⟨ib, 0, none⟩)]
theorem eachPick2_any {w : World} {B pb ib k i : Nat} {v jv : Value} {pss : List (List (Value × Value))} {zss : List (List Int)} {js : List Nat} (hj : In9 w jv (js.map (fun n : Nat => (n : Int)))) (hp : w.cell? ⟨pb, 0, none⟩ = some v) (hv : Prr B w v pss) (hz : Ziss w pss zss k) (hi : w.cell? ⟨ib, 0, none⟩ = some (.int .i64 (i : Int))) (hil : i < pss.length) (hjl : ∀ j ∈ js, j < (zss.getD i []).length) :
  Calls Tryz.prog 105 #[jv, fnPick2 pb ib] w (Listed w (js.map (ent9 zss i)) k) := by
 have J0 := hid hj
 have V0 := hid hv
 have Z0 := hid hz
 have P0 := hid hp
 have I0 := hid hi
 have HIL := hid hil
 have HJL : Hid (∀ j (h : j < js.length), js[j] < (zss.getD i []).length) := fun j h => hjl _ (List.getElem_mem h)
 have HMP : Hid (js.map (ent9 zss i) = (List.range js.length).map fun j => ent9 zss i (js.getD j 0)) := by
  unfold Hid
  apply List.ext_getElem
  ·simp
  ·intro j h1 h2
   simp at h1
   simp [h1]
 obtain ⟨a0, c0, rfl, hc0, hn0, hf0⟩ := hj.form
 obtain ⟨n, hn⟩ : ∃ n, js.length = n := ⟨_, rfl⟩
 rw [List.length_map, hn] at J0 hc0 hn0 ⊢
 rw [hn] at HMP
 have HN := hid hn
 have F0 := hid hf0
 clear hj hv hz hp hi hil hjl hf0 hn
 generalize js.map (ent9 zss i) = RS at *
 go_enter Tryz.func105, Tryz.ntmps105
 go_wp2_with (at_make; refine wpList_make_pairs9 _ rfl _ _ rfl _ _ n n rfl rfl rfl rfl (Nat.le_refl _) (by omega) ?_)
 intro w1 hrow hb1 hsz1
 have H0 : Hid (EachH w w.heap.size n (fun j => ent9 zss i (js.getD j 0)) k n (.int .i64 0) w1) := ⟨0, rfl, Nat.zero_le _, by omega, Fil.start hrow _ _, hb1⟩
 clear hrow hb1 hsz1
 go_wp2_with fail
 go_loopg [13] n (fun gk s13 wx => EachH w w.heap.size n (fun j => ent9 zss i (js.getD j 0)) k gk s13 wx)
 case atStart => exact H0.out
 case round =>
  clear H0
  obtain ⟨t, rfl, hin, hg, hfil, hG⟩ := hrel
  have FI := hid hfil
  have G := hid hG
  have HG := hid hg
  clear hfil hG hg
  by_cases hlt : t < n
  ·have hlt' : (t : Int) < (n : Int) := by omega
   obtain ⟨b1, o1, rfl⟩ := F0.out (fun e => by have := HN.out; simp at e; rw [e] at this; simp at this; omega)
   have ht : t < js.length := by rw [HN.out]; exact hlt
   have k0 := (J0.out.now G.out).at (i := t) (by rw [List.length_map]; exact ht)
   rw [List.getElem_map] at k0
   have HS := hid (pick11_any (cnow G.out P0.out) (V0.out.now G.out) (Z0.out.now G.out) (cnow G.out I0.out) HIL.out (HJL.out t ht))
   have ej : js[t] = js.getD t 0 := by simp [ht]
   rw [ej] at k0 HS
   have hw := wrapI9 (i := t) (by omega)
   clear ej ht
   generalize hjt : js.getD t 0 = jt at *
   have HJT := hid hjt
   clear hjt
   go_wp2_with fail
   refine HS.out.mono ?_
   rintro e w1 ⟨r, rfl, m1, b⟩
   have FI1 := hid (FI.out.step b)
   have G1 := hid (below_step G.out b)
   have M1 := hid m1.zc
   obtain ⟨nr, xr, ar, cr, rfl⟩ := m1.parts
   obtain ⟨m0, am, lm, cm, e0, e1, e2, e3⟩ := FI1.out.cells hlt
   have HN1 : Hid (EachH w w.heap.size n (fun j => ent9 zss i (js.getD j 0)) k (n - (t + 1)) (.int .i64 ((t + 1 : Nat) : Int)) ((w1.setCell ⟨w.heap.size, t * 2, none⟩ (.bool nr)).setCell ⟨w.heap.size, t * 2 + 1, none⟩ (.slice ar xr.length cr))) :=
    ⟨t + 1, rfl, by omega, rfl, FI1.out.put hlt (by rw [HJT.out]; exact M1.out), bset (bset G1.out (Nat.le_refl _)) (Nat.le_refl _)⟩
   have HMM : Hid (n - (t + 1) < gk) := by unfold Hid; rw [HG.out]; omega
   clear HS FI G HG FI1 G1 M1 m1 b k0 HJT
   go_wp2_with fail
   go_roundg (n - (t + 1))
   case rel => exact HN1.out
   case measure => exact HMM.out
  ·have hlt' : ¬ (t : Int) < (n : Int) := by omega
   obtain rfl : t = n := by omega
   obtain ⟨ps, p1, p2⟩ := FI.out.done (B := w.heap.size) (Nat.le_refl _) (by omega)
   rw [← HMP.out] at p2
   have FIN : Hid (Listed w RS k (.returned (.slice (some ⟨w.heap.size, 0, none⟩) t t)) wr) := ⟨_, ps, rfl, p1, p2, G.out⟩
   clear FI G HG p1 p2
   go_wp2
   go_ret
   exact FIN.out
theorem pick1_any {w : World} {B pb cb k i : Nat} {v jv : Value} {pss : List (List (Value × Value))} {zss : List (List Int)} {js : List Nat} (hc : w.cell? ⟨cb, 0, none⟩ = some jv) (hj : In9 w jv (js.map (fun n : Nat => (n : Int)))) (hp : w.cell? ⟨pb, 0, none⟩ = some v) (hv : Prr B w v pss) (hz : Ziss w pss zss k) (hil : i < pss.length) (hjl : ∀ j ∈ js, j < (zss.getD i []).length) :
  Calls Tryz.prog 104 #[.int .i64 (i : Int), .pointer (some ⟨cb, 0, none⟩), .pointer (some ⟨pb, 0, none⟩)] w (Listed w (js.map (ent9 zss i)) k) := by
 obtain ⟨W0, hW⟩ : ∃ W0, w.alloc (.cells #[.int .i64 (i : Int)] 3) = W0 := ⟨_, rfl⟩
 obtain ⟨b0, sz0⟩ := alo1 w (.cells #[.int .i64 (i : Int)] 3)
 rw [hW] at b0 sz0
 have hi : W0.cell? ⟨w.heap.size, 0, none⟩ = some (.int .i64 (i : Int)) := by rw [← hW]; exact (Cel.new w 3 [.int .i64 (i : Int)]).at (i := 0) rfl
 have HC := hid (eachPick2_any (hj.now b0) (cnow b0 hp) (hv.now b0) (hz.now b0) hi hil hjl)
 obtain ⟨a0, c0, rfl, -, -, -⟩ := hj.form
 have k0 : (w.alloc (.cells #[.int .i64 (i : Int)] 3)).cell? ⟨cb, 0, none⟩ = some (.slice a0 (js.map (fun n : Nat => (n : Int))).length c0) := by rw [hW]; exact cnow b0 hc
 have G0 := hid b0
 have EW := hid hW
 clear hc hj hp hv hz hil hjl b0 hW sz0 hi
 generalize js.map (ent9 zss i) = RS at *
 generalize (js.map (fun n : Nat => (n : Int))).length = lj at *
 go_enter Tryz.func104, Tryz.ntmps104
 go_wp2_with fail
 rw [EW.out]
 refine HC.out.mono ?_
 rintro e w1 ⟨u, ps, rfl, p1, p2, b⟩
 have FIN : Hid (Listed w RS k (.returned u) w1) := ⟨u, ps, rfl, p1.mono G0.out.size, p2, below_step G0.out b⟩
 clear HC G0 EW p1 p2 b k0
 go_wp2
 go_ret
 exact FIN.out
end Go.Proofs.YtnpcfohimlfbdaaGreat
