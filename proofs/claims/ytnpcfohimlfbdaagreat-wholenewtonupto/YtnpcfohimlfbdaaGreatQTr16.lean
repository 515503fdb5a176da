/-
 Tr16: charpoly.traces, where no more are asked than there are rows.
-/
import Derived.Test.YtnpcfohimlfbdaaGreatQSig16ToFa16
import Derived.Test.YtnpcfohimlfbdaaGreatQGi10ToGather8
import Derived.Test.YtnpcfohimlfbdaaGreatQProd9ToTailL
import Derived.Deep.Cut
set_option maxRecDepth 100000
set_option maxHeartbeats 6400000
set_option linter.unusedVariables false
set_option linter.unusedSimpArgs false
namespace Go.Proofs.YtnpcfohimlfbdaaGreat
open Go.RowKit

/-- The sum that Newton's formula has for the number c + 1, with m of its products. -/
def nwS (n : Nat) (P T : List Int) (c m : Nat) : Int := ((c + 1 : Nat) : Int) * P.getD (n - (c + 1)) 0 + su m (fun i => P.getD (n - (i + 1)) 0 * T.getD (c - (i + 1)) 0)
/-- The traces, as the program makes them. -/
def trL (n : Nat) (P : List Int) : Nat → List Int
 | 0 => []
 | c + 1 => trL n P c ++ [-(nwS n P (trL n P c) c c)]
theorem trL_length {n : Nat} {P : List Int} : ∀ c, (trL n P c).length = c
 | 0 => rfl
 | c + 1 => by simp [trL, trL_length c]
theorem nwS_step {n c m : Nat} {P T : List Int} : P.getD (n - (m + 1)) 0 * T.getD (c - (m + 1)) 0 + nwS n P T c m = nwS n P T c (m + 1) := by
 unfold nwS
 rw [show su (m + 1) (fun i => P.getD (n - (i + 1)) 0 * T.getD (c - (i + 1)) 0) = su m (fun i => P.getD (n - (i + 1)) 0 * T.getD (c - (i + 1)) 0) + P.getD (n - (m + 1)) 0 * T.getD (c - (m + 1)) 0 from rfl]
 omega
theorem GatZ.more16 {B k l : Nat} {w : World} {v : Value} {zs : List Int} (h : GatZ B w v zs k) (hl : k ≤ l) : GatZ B w v zs l := by
 obtain ⟨Us, h1, h3⟩ := h
 refine ⟨Us, h1, fun j z hz => ?_⟩
 obtain ⟨x, y, e1, e2, e3⟩ := h3 j z hz
 exact ⟨x, y, e1, e2, e3.more hl⟩
theorem GatZ.start16 {w : World} {B g m k : Nat} (h : Arr w g (List.replicate m zpair)) (hB : B ≤ g) (hm : m ≤ 1048576) : GatZ B w (.slice (some ⟨g, 0, none⟩) 0 m) [] k := by
 refine ⟨[], ⟨rfl, .inr ⟨g, m, _, rfl, hB, h.1, Nat.zero_le _, by unfold maxLen; omega, ?_, by simp⟩⟩, fun j z hz => by simp at hz⟩
 simp [flat_length]
def TrH (w : World) (n d : Nat) (P : List Int) (q gk : Nat) (s6 s7 : Value) (wx : World) : Prop :=
 ∃ (c cap : Nat) (a : Option Addr), s7 = .int .i64 ((c + 1 : Nat) : Int) ∧ c ≤ d ∧ gk = d - c ∧ s6 = .slice a c cap ∧ GatZ w.heap.size wx (.slice a c cap) (trL n P c) (1 + c * q) ∧ Below w.heap.size w wx
def TrI (w : World) (n b8 : Nat) (P : List Int) (a : Option Addr) (c cap ks gk : Nat) (kg : Nat) (s9 : Value) (wx : World) : Prop :=
 ∃ (m : Nat) (x y : Value), s9 = .int .i64 ((m + 1 : Nat) : Int) ∧ m ≤ c ∧ gk = c - m ∧ GatZ w.heap.size wx (.slice a c cap) (trL n P c) kg ∧ Duo wx b8 x y ∧ Zm w.heap.size wx (.agg #[x, y]) (nwS n P (trL n P c) c m) (ks + m) ∧ Below w.heap.size w wx
def Traced (w : World) (n d : Nat) (P : List Int) (k : Nat) (e : Ending) (w' : World) : Prop := ∃ a cap, e = .returned (.slice a d cap) ∧ Zl w' (.slice a d cap) (trL n P d) k ∧ Below w.heap.size w w'
theorem Zm.duo16 {B b k : Nat} {w : World} {x y x' y' : Value} {z : Int} (h : Zm B w (.agg #[x, y]) z k) (d : Duo w b x' y') : Zm B ((w.setCell ⟨b, 0, none⟩ x).setCell ⟨b, 1, none⟩ y) (.agg #[x, y]) z k := h.box d _ _
theorem GatZ.duo16 {B b k : Nat} {w : World} {v x' y' : Value} {zs : List Int} (h : GatZ B w v zs k) (d : Duo w b x' y') (hne : v.ownBlock ≠ some b) (x y : Value) : GatZ B ((w.setCell ⟨b, 0, none⟩ x).setCell ⟨b, 1, none⟩ y) v zs k := by
 obtain ⟨Us, h1, h3⟩ := h
 refine ⟨Us, ?_, fun j z hz => ?_⟩
 ·obtain ⟨q1, q2 | ⟨g, cap, cur, q2, q3, q4, q5⟩⟩ := h1
  ·exact ⟨q1, .inl q2⟩
  ·refine ⟨q1, .inr ⟨g, cap, cur, q2, q3, (heap_ne2 (fun e => hne ?_) x y).trans q4, q5⟩⟩
   rw [q2, e]
   rfl
 ·obtain ⟨x1, y1, e1, e2, e3⟩ := h3 j z hz
  exact ⟨x1, y1, e1, e2, e3.box d _ _⟩
theorem GatZ.own_lt {B k : Nat} {w : World} {v : Value} {zs : List Int} (h : GatZ B w v zs k) : ∀ f, v.ownBlock = some f → f < w.heap.size := fun f e => by
 obtain ⟨Us, ⟨q1, ⟨q2, _⟩ | ⟨g, cap, cur, q2, q3, q4, q5⟩⟩, _⟩ := h
 ·rw [q2] at e; cases e
 ·rw [q2] at e
  obtain rfl : g = f := by simpa [Value.ownBlock] using e
  exact (Array.getElem?_eq_some_iff.1 q4).1
theorem traces_any {w : World} {ap : Option Addr} {n d cp kp : Nat} {P : List Int} (hP : Zl w (.slice ap (n + 1) cp) P kp) (hn : n ≤ 64) (hd : d ≤ n) (hk : kp ≤ 400000000000) :
  Calls Tryz.prog 40 #[.slice ap (n + 1) cp, .int .i64 (d : Int)] w (Traced w n d P (1 + d * (kp + 300))) := by
 have PP := hid hP
 have LP : Hid (P.length = n + 1) := by obtain ⟨_, _, e, _⟩ := hP.form9; simp only [Value.slice.injEq] at e; exact e.2.1.symm
 have hcp : n + 1 ≤ cp := by obtain ⟨_, _, e, h, _⟩ := hP.form9; simp only [Value.slice.injEq] at e; obtain ⟨-, h1, rfl⟩ := e; omega
 have FP : Hid (P ≠ [] → ∃ b off, ap = some ⟨b, off, none⟩) := fun h0 => by obtain ⟨_, _, e, _, _, h⟩ := hP.form9; simp only [Value.slice.injEq] at e; obtain ⟨rfl, -, -⟩ := e; exact h h0
 obtain ⟨b1, o1, rfl⟩ := FP.out (fun e => by have := LP.out; rw [e] at this; simp at this)
 obtain ⟨q, hq⟩ : ∃ q, kp + 300 = q := ⟨_, rfl⟩
 rw [hq]
 have EQ := hid hq
 have HK := hid hk
 have hw1 : IntKind.i64.wrap (((n + 1 : Nat) : Int) - 1) = (n : Int) := by rw [wrap_is] <;> omega
 obtain ⟨N1, hN1⟩ : ∃ N1, n + 1 = N1 := ⟨_, rfl⟩
 rw [hN1] at PP hw1 LP hcp ⊢
 have EN1 := hid hN1
 clear hP hq hk hN1 FP
 go_enter Tryz.func40, Tryz.ntmps40
 go_wp2_with (at_make; refine wpList_make_pairs9 _ rfl _ _ rfl _ _ 0 d rfl rfl rfl rfl (Nat.zero_le _) (by omega) ?_)
 intro w1 hrow hb1 hsz1
 have H0 : Hid (TrH w n d P q d (.slice (some ⟨w.heap.size, 0, none⟩) 0 d) (.int .i64 1) w1) := ⟨0, d, _, rfl, Nat.zero_le _, by omega, rfl, GatZ.start16 hrow (Nat.le_refl _) (by omega), hb1⟩
 clear hrow hb1 hsz1 hw1
 go_wp2_with fail
 go_loopg [6, 7] d (fun gk s6 s7 wx => TrH w n d P q gk s6 s7 wx)
 case atStart => exact H0.out
 case round =>
  clear H0
  obtain ⟨c, cap, a, rfl, hcd, hg, rfl, hgz, hB⟩ := hrel
  have GZ := hid hgz
  have B := hid hB
  have HG := hid hg
  have TL : Hid ((trL n P c).length = c) := trL_length c
  clear hgz hB hg
  obtain ⟨C1, hC1⟩ : ∃ C1, c + 1 = C1 := ⟨_, rfl⟩
  have EC1 := hid hC1
  rw [hC1]
  by_cases hlt : c < d
  ·have hlt' : (C1 : Int) ≤ (d : Int) := by omega
   have hcn : (C1 : Int) ≤ (n : Int) := by omega
   have hiP : n - C1 < P.length := by rw [LP.out]; have := EN1.out; omega
   have hws : IntKind.i64.wrap ((n : Int) - (C1 : Int)) = ((n - C1 : Nat) : Int) := by rw [wrap_is] <;> omega
   obtain ⟨pi, hpi⟩ : ∃ pi, n - C1 = pi := ⟨_, rfl⟩
   rw [hpi] at hiP hws
   have EPI := hid hpi
   have hpiN : (pi : Int) < (N1 : Int) := by have := EN1.out; omega
   obtain ⟨V1, hV⟩ : ∃ V1, wr.alloc zbox = V1 := ⟨_, rfl⟩
   obtain ⟨bv, szv⟩ := alo1 wr zbox
   rw [hV] at bv szv
   have D8 : Hid (Duo V1 wr.heap.size (.bool false) (.slice none 0 0)) := by unfold Hid; rw [← hV]; exact Duo.new wr _ _
   have HOW : Hid (Value.ownBlock (.slice a c cap) ≠ some wr.heap.size) := fun e => absurd (GZ.out.own_lt _ e) (Nat.lt_irrefl _)
   have GV := hid (GZ.out.now bv)
   have BV := hid (below_step B.out bv)
   have HB8 := hid B.out.size
   have HMM : Hid (d - C1 < gk) := by unfold Hid; rw [HG.out]; omega
   have EV := hid hV
   clear bv szv hV GZ B HG hC1 hpi
   go_upto_region 8 with fail
   rw [EV.out]
   clear EV
   generalize wr.heap.size = b8 at *
   obtain ⟨nf, xf, adf, qf, k0, k1, zf⟩ := (PP.out.now BV.out).at9 (i := pi) hiP
   rw [getD_at hiP] at zf
   obtain ⟨lf, hlf⟩ : ∃ lf, xf.length = lf := ⟨_, rfl⟩
   rw [hlf] at k1 zf
   have ZF := hid zf
   clear zf hlf
   have KB : Hid (∀ w', Below V1.heap.size V1 w' → w'.cell? ⟨b1, o1 + pi * 2, none⟩ = some (.bool nf) ∧ w'.cell? ⟨b1, o1 + pi * 2 + 1, none⟩ = some (.slice adf lf qf)) := fun w' h => ⟨cnow h k0, cnow h k1⟩
   refine wp_region_tail (fun w' => w'.cell? ⟨b1, o1 + pi * 2, none⟩ = some (.bool nf) ∧ w'.cell? ⟨b1, o1 + pi * 2 + 1, none⟩ = some (.slice adf lf qf)) 9 (by kernel_rfl) ?_
   obtain ⟨D61, hD⟩ : ∃ D61, V1.drew = D61 := ⟨_, rfl⟩
   have GB : Hid (Below V1.heap.size V1 D61) := by unfold Hid; rw [← hD]; exact (Below.refl _ _).drew
   rw [hD]
   clear hD
   refine wpAnyT_list [(0, (.int .i64 (C1 : Int))), (2, (.slice (some ⟨b1, o1, none⟩) N1 cp)), (3, (.int .i64 (n : Int))), (4, (.int .i64 (C1 : Int))), (5, (.int .i64 (pi : Int))), (6, (.pointer (some ⟨b1, o1 + pi * 2, none⟩))), (7, (.agg #[.bool nf, .slice adf lf qf]))] 7 ?_ (KB.out _ GB.out) ?_
   ·simp only [TakesV, gA9, g09, g19, Act.put, sI9, s09, s19]
    (repeat' (first | exact trivial | refine And.intro (Or.inl ⟨by rfl, ?_⟩) ?_)) <;> (intro w hSw; (try dsimp only at hSw); go_simp)
   simp only [actV, gA9, g09, g19, Act.put, sI9, s09, s19]
   refine wpAnyT_one (i := 1) (o := { dst := some 24, op := Op.call { callee := Callee.value (Operand.func 14), args := #[Operand.tmp 23], argTypes := #[2] }, type := 29, pos := "charpoly.go:116", after := #[{ on := 0, ground := Ground.data }], guard := none }) (by kernel_rfl) rfl (fun K hK => ?_)
   go_simp
   go_at_call 14
   refine (of_z (by omega) (by omega) _).mono ?_
   rintro e w62 ⟨r1, rfl, m1, b⟩
   have lz62 := (show Below _ _ _ from b).size
   replace GB := hid (below_step GB.out b)
   have ZO := hid m1.zi
   obtain ⟨no, xo, ao, co, rfl⟩ := m1.parts
   clear m1
   clear b
   refine hK.out _ _ (fun _ => KB.out _ GB.out) ?_
   clear hK
   refine wpAnyT_one (i := 8) (o := { dst := some 31, op := Op.call { callee := Callee.value (Operand.func 13), args := #[Operand.tmp 24, Operand.tmp 30], argTypes := #[29, 29] }, type := 29, pos := "charpoly.go:116", after := #[{ on := 1, ground := Ground.data }, { on := 7, ground := Ground.data }, { on := 1, ground := Ground.chain }], guard := none }) (by kernel_rfl) rfl (fun K hK => ?_)
   have lzg : Hid (V1.heap.size ≤ w62.heap.size) := GB.out.size
   go_simp
   go_at_call 13
   refine (mul_z ZO.out (ZF.out.now GB.out) (by have := HK.out; omega)).mono ?_
   rintro e w63 ⟨r1, rfl, m1, b⟩
   have lz63 := (show Below _ _ _ from b).size
   replace GB := hid (below_step GB.out b)
   have GV1 := hid (GV.out.now GB.out)
   have BV1 := hid (below_step BV.out GB.out)
   have D81 := hid (D8.out.step GB.out)
   have MS := hid (m1.mono (Nat.le_trans BV.out.size lzg.out))
   obtain ⟨ns, xs, as1, cs1, rfl⟩ := m1.parts
   obtain ⟨ls, hls⟩ : ∃ ls, xs.length = ls := ⟨_, rfl⟩
   rw [hls] at MS ⊢
   clear m1 hls
   clear b
   refine hK.out _ _ (fun _ => KB.out _ GB.out) ?_
   clear hK
   refine wpAnyT_one (i := 9) (o := { dst := none, op := Op.store 29 (Operand.tmp 8) (Operand.tmp 31), type := 0, pos := "charpoly.go:116", after := #[{ on := 8, ground := Ground.data }, { on := 8, ground := Ground.chain }, { on := 0, ground := Ground.phase }, { on := 1, ground := Ground.phase }, { on := 2, ground := Ground.phase }, { on := 3, ground := Ground.phase }, { on := 4, ground := Ground.phase }, { on := 5, ground := Ground.phase }, { on := 6, ground := Ground.phase }, { on := 7, ground := Ground.phase }, { on := 8, ground := Ground.phase }], guard := none }) (by kernel_rfl) rfl (fun K hK => ?_)
   have e0 := D81.out.c0
   have e1 := D81.out.c1
   have e2 := D81.out.fz 0
   have e3 := D81.out.fz 1
   go_simp
   clear e0 e1 e2 e3
   obtain ⟨V64, hW⟩ : ∃ V64, ((w63.setCell ⟨b8, 0, none⟩ (.bool ns)).setCell ⟨b8, 1, none⟩ (.slice as1 ls cs1)) = V64 := ⟨_, rfl⟩
   have H1 : Hid (TrI w n b8 P a c cap (kp + (1 + c * q) + 2) c (1 + c * q) (.int .i64 1) V64) := by
    unfold Hid
    rw [← hW]
    refine ⟨0, .bool ns, .slice as1 ls cs1, rfl, Nat.zero_le _, by omega, GV1.out.duo16 D81.out HOW.out _ _, D81.out.set _ _, ?_, bset (bset BV1.out HB8.out) HB8.out⟩
    have e : nwS n P (trL n P c) c 0 = (C1 : Int) * P.getD pi 0 := by unfold nwS; rw [EC1.out, EPI.out]; simp [su]
    rw [e]
    exact (MS.out.duo16 D81.out).more (by omega)
   rw [hW]
   clear hW
   refine hK.out _ _ (fun h => absurd h (by decide)) ?_
   clear hK
   try simp only [Act.put]
   refine wpAnyT_done (by kernel_rfl) ?_ _
   clear GV GV1 BV BV1 D8 D81 MS GB KB ZF ZO lzg
   go_wp2_with fail
   go_loopg [9] c (fun gk2 s9 wx => TrI w n b8 P a c cap (kp + (1 + c * q) + 2) gk2 (1 + c * q) s9 wx)
   case atStart => exact H1.out
   case round =>
    clear H1
    obtain ⟨m, x8, y8, rfl, hmc, hg, hgz, hd8, hz8, hB⟩ := hrel
    have GZ := hid hgz
    have D8 := hid hd8
    have Z8 := hid hz8
    have B := hid hB
    have HG := hid hg
    obtain ⟨n8, x8', a8, c8, e8⟩ := hz8.parts
    simp only [Value.agg.injEq, Array.mk.injEq, List.cons.injEq, and_true] at e8
    obtain ⟨rfl, rfl⟩ := e8
    obtain ⟨l8, hl8⟩ : ∃ l8, x8'.length = l8 := ⟨_, rfl⟩
    rw [hl8] at D8 Z8
    have hcq : c * q ≤ 64 * q := Nat.mul_le_mul_right _ (by omega)
    have HCQ : Hid (1 + c * q ≤ 1 + 64 * q) := by unfold Hid; omega
    clear hgz hd8 hz8 hB hg hl8 hcq
    have hmn : ((m + 1 : Nat) : Int) ≤ (n : Int) := by omega
    obtain ⟨M1, hM1⟩ : ∃ M1, m + 1 = M1 := ⟨_, rfl⟩
    have EM1 := hid hM1
    rw [hM1] at hmn ⊢
    clear hM1
    by_cases hmt : m < c
    ·have hmt' : (M1 : Int) < (C1 : Int) := by have := EC1.out; have := EM1.out; omega
     have hjP : n - M1 < P.length := by rw [LP.out]; have := EN1.out; have := EM1.out; omega
     have hw2 : IntKind.i64.wrap ((n : Int) - (M1 : Int)) = ((n - M1 : Nat) : Int) := by have := EM1.out; rw [wrap_is] <;> omega
     have hw3 : IntKind.i64.wrap ((C1 : Int) - (M1 : Int)) = ((C1 - M1 : Nat) : Int) := by have := EC1.out; have := EM1.out; rw [wrap_is] <;> omega
     obtain ⟨pj, hpj⟩ : ∃ pj, n - M1 = pj := ⟨_, rfl⟩
     obtain ⟨cj, hcj⟩ : ∃ cj, C1 - M1 = cj := ⟨_, rfl⟩
     obtain ⟨tj, htj⟩ : ∃ tj, c - M1 = tj := ⟨_, rfl⟩
     rw [hpj] at hjP hw2
     rw [hcj] at hw3
     have hw4 : IntKind.i64.wrap ((cj : Int) - 1) = (tj : Int) := by have := EC1.out; have := EM1.out; rw [wrap_is] <;> omega
     have EPJ := hid hpj
     have ETJ := hid htj
     have hpjN : (pj : Int) < (N1 : Int) := by have := EN1.out; have := EM1.out; omega
     have htjc : (tj : Int) < (c : Int) := by have := EM1.out; omega
     have hwm := wrapI9 (i := M1) (by have := EM1.out; omega)
     have HM2 : Hid (c - M1 < gk) := by unfold Hid; rw [HG.out]; have := EM1.out; omega
     obtain ⟨nf, xf, adf, qf, k0, k1, zf⟩ := (PP.out.now B.out).at9 (i := pj) hjP
     rw [getD_at hjP] at zf
     have htl : tj < (trL n P c).length := by rw [TL.out]; have := EM1.out; omega
     have ZLG := hid (GZ.out.zl (by rw [TL.out]; omega))
     obtain ⟨bt, ot, hat⟩ : ∃ bt ot, a = some ⟨bt, ot, none⟩ := by
      obtain ⟨a2, c2, e, _, _, h⟩ := ZLG.out.form9
      simp only [Value.slice.injEq] at e
      obtain ⟨b2, o2, q2⟩ := h (fun q => by rw [q] at htl; simp at htl)
      exact ⟨b2, o2, by rw [e.1]; exact q2⟩
     subst hat
     obtain ⟨ng, xg, adg, qg, k2, k3, zg⟩ := ZLG.out.at9 (i := tj) htl
     rw [getD_at htl] at zg
     obtain ⟨lf, hlf⟩ : ∃ lf, xf.length = lf := ⟨_, rfl⟩
     obtain ⟨lg, hlg⟩ : ∃ lg, xg.length = lg := ⟨_, rfl⟩
     rw [hlf] at k1 zf
     rw [hlg] at k3 zg
     have ZF := hid zf
     have ZG := hid zg
     clear zf zg hlf hlg HG hpj hcj htj ZLG
     go_upto_region 12 with fail
     have d0 := D8.out.c0
     have d1 := D8.out.c1
     have KB : Hid (∀ w', Below wr.heap.size wr w' → w'.cell? ⟨b1, o1 + pj * 2, none⟩ = some (.bool nf) ∧ w'.cell? ⟨b1, o1 + pj * 2 + 1, none⟩ = some (.slice adf lf qf) ∧ w'.cell? ⟨bt, ot + tj * 2, none⟩ = some (.bool ng) ∧ w'.cell? ⟨bt, ot + tj * 2 + 1, none⟩ = some (.slice adg lg qg) ∧ w'.cell? ⟨b8, 0, none⟩ = some (.bool n8) ∧ w'.cell? ⟨b8, 1, none⟩ = some (.slice a8 l8 c8)) := fun w' h => ⟨cnow h k0, cnow h k1, cnow h k2, cnow h k3, cnow h d0, cnow h d1⟩
     refine wp_region_tail (fun w' => w'.cell? ⟨b1, o1 + pj * 2, none⟩ = some (.bool nf) ∧ w'.cell? ⟨b1, o1 + pj * 2 + 1, none⟩ = some (.slice adf lf qf) ∧ w'.cell? ⟨bt, ot + tj * 2, none⟩ = some (.bool ng) ∧ w'.cell? ⟨bt, ot + tj * 2 + 1, none⟩ = some (.slice adg lg qg) ∧ w'.cell? ⟨b8, 0, none⟩ = some (.bool n8) ∧ w'.cell? ⟨b8, 1, none⟩ = some (.slice a8 l8 c8)) 15 (by kernel_rfl) ?_
     obtain ⟨D81, hD⟩ : ∃ D81, wr.drew = D81 := ⟨_, rfl⟩
     have GB : Hid (Below wr.heap.size wr D81) := by unfold Hid; rw [← hD]; exact (Below.refl _ _).drew
     rw [hD]
     clear hD
     refine wpAnyT_list [(0, (.slice (some ⟨b1, o1, none⟩) N1 cp)), (1, (.int .i64 (n : Int))), (2, (.int .i64 (M1 : Int))), (3, (.int .i64 (pj : Int))), (4, (.pointer (some ⟨b1, o1 + pj * 2, none⟩))), (5, (.agg #[.bool nf, .slice adf lf qf])), (6, (.slice (some ⟨bt, ot, none⟩) c cap)), (7, (.int .i64 (C1 : Int))), (8, (.int .i64 (M1 : Int))), (9, (.int .i64 (cj : Int))), (10, (.int .i64 (tj : Int))), (11, (.pointer (some ⟨bt, ot + tj * 2, none⟩))), (12, (.agg #[.bool ng, .slice adg lg qg])), (13, (.agg #[.bool n8, .slice a8 l8 c8]))] 14 ?_ (KB.out _ GB.out) ?_
     ·simp only [TakesV, gA9, g09, g19, Act.put, sI9, s09, s19]
      (repeat' (first | exact trivial | refine And.intro (Or.inl ⟨by rfl, ?_⟩) ?_)) <;> (intro w hSw; (try dsimp only at hSw); go_simp)
     simp only [actV, gA9, g09, g19, Act.put, sI9, s09, s19]
     refine wpAnyT_one (i := 14) (o := { dst := some 56, op := Op.call { callee := Callee.value (Operand.func 70), args := #[Operand.tmp 47, Operand.tmp 54, Operand.tmp 55], argTypes := #[29, 29, 29] }, type := 29, pos := "charpoly.go:119", after := #[{ on := 5, ground := Ground.data }, { on := 12, ground := Ground.data }, { on := 13, ground := Ground.data }], guard := none }) (by kernel_rfl) rfl (fun K hK => ?_)
     have lzh : Hid (wr.heap.size ≤ D81.heap.size) := GB.out.size
     go_simp
     go_at_call 70
     refine (mulAdd_z (ZF.out.now GB.out) (ZG.out.now GB.out) (Z8.out.zi.now GB.out) (by have := HK.out; have := EQ.out; have := HCQ.out; omega) (by have := HK.out; have := EQ.out; have := HCQ.out; omega)).mono ?_
     rintro e w82 ⟨r1, rfl, m1, b⟩
     have lz82 := (show Below _ _ _ from b).size
     replace GB := hid (below_step GB.out b)
     have GZ1 := hid (GZ.out.now GB.out)
     have B1 := hid (below_step B.out GB.out)
     have D81 := hid (D8.out.step GB.out)
     have MS := hid (m1.mono (Nat.le_trans B.out.size lzh.out))
     obtain ⟨ns, xs, as1, cs1, rfl⟩ := m1.parts
     obtain ⟨ls, hls⟩ : ∃ ls, xs.length = ls := ⟨_, rfl⟩
     rw [hls] at MS ⊢
     clear m1 hls
     clear b
     refine hK.out _ _ (fun _ => KB.out _ GB.out) ?_
     clear hK
     refine wpAnyT_one (i := 15) (o := { dst := none, op := Op.store 29 (Operand.tmp 8) (Operand.tmp 56), type := 0, pos := "charpoly.go:119", after := #[{ on := 14, ground := Ground.data }, { on := 14, ground := Ground.chain }, { on := 0, ground := Ground.phase }, { on := 1, ground := Ground.phase }, { on := 2, ground := Ground.phase }, { on := 3, ground := Ground.phase }, { on := 4, ground := Ground.phase }, { on := 5, ground := Ground.phase }, { on := 6, ground := Ground.phase }, { on := 7, ground := Ground.phase }, { on := 8, ground := Ground.phase }, { on := 9, ground := Ground.phase }, { on := 10, ground := Ground.phase }, { on := 11, ground := Ground.phase }, { on := 12, ground := Ground.phase }, { on := 13, ground := Ground.phase }, { on := 14, ground := Ground.phase }], guard := none }) (by kernel_rfl) rfl (fun K hK => ?_)
     have e0 := D81.out.c0
     have e1 := D81.out.c1
     have e2 := D81.out.fz 0
     have e3 := D81.out.fz 1
     go_simp
     clear e0 e1 e2 e3
     obtain ⟨V83, hW⟩ : ∃ V83, ((w82.setCell ⟨b8, 0, none⟩ (.bool ns)).setCell ⟨b8, 1, none⟩ (.slice as1 ls cs1)) = V83 := ⟨_, rfl⟩
     have HN1 : Hid (TrI w n b8 P (some ⟨bt, ot, none⟩) c cap (kp + (1 + c * q) + 2) (c - M1) (1 + c * q) (.int .i64 ((M1 + 1 : Nat) : Int)) V83) := by
      unfold Hid
      rw [← hW]
      refine ⟨m + 1, .bool ns, .slice as1 ls cs1, by rw [EM1.out], by omega, by rw [EM1.out], GZ1.out.duo16 D81.out HOW.out _ _, D81.out.set _ _, ?_, bset (bset B1.out HB8.out) HB8.out⟩
      have e : P.getD pj 0 * (trL n P c).getD tj 0 + nwS n P (trL n P c) c m = nwS n P (trL n P c) c (m + 1) := by rw [← EPJ.out, ← ETJ.out, ← EM1.out]; exact nwS_step
      rw [← e]
      exact (MS.out.duo16 D81.out).more (by omega)
     rw [hW]
     clear hW
     refine hK.out _ _ (fun h => absurd h (by decide)) ?_
     clear hK
     try simp only [Act.put]
     refine wpAnyT_done (by kernel_rfl) ?_ _
     clear GZ GZ1 B B1 D8 D81 MS GB KB ZF ZG Z8 lzh
     go_wp2_with fail
     go_roundg (c - M1)
     case rel => exact HN1.out
     case measure => exact HM2.out
    ·have hmt' : ¬ (M1 : Int) < (C1 : Int) := by have := EC1.out; have := EM1.out; omega
     obtain rfl : m = c := by omega
     have HNEG := hid (neg_z Z8.out.zi)
     have c0 := D8.out.c0
     have c1 := D8.out.c1
     clear HG
     go_wp2_with fail
     clear c0 c1
     refine HNEG.out.mono ?_
     rintro e w9 ⟨r9, rfl, m9, b⟩
     have Z9 := hid (m9.mono (Nat.zero_le _))
     obtain ⟨n9, x9, a9, c9, rfl⟩ := m9.parts
     obtain ⟨l9, hl9⟩ : ∃ l9, x9.length = l9 := ⟨_, rfl⟩
     rw [hl9] at Z9 ⊢
     replace GZ := hid (GZ.out.now b)
     replace B := hid (below_step B.out b)
     clear m9 b hl9 HNEG
     obtain ⟨V, hV⟩ : ∃ V, w9.alloc (.cells #[.bool n9, .slice a9 l9 c9] 29) = V := ⟨_, rfl⟩
     obtain ⟨bv, szv⟩ := alo1 w9 (.cells #[.bool n9, .slice a9 l9 c9] 29)
     rw [hV] at bv szv
     have dv : Cel V w9.heap.size 29 [.bool n9, .slice a9 l9 c9] := by rw [← hV]; exact Cel.new w9 _ _
     have HC0 := hid (dv.at (i := 0) rfl)
     have HC1 := hid (dv.at (i := 1) rfl)
     have KQ : Hid (kp + (1 + m * q) + 2 + m ≤ 1 + (m + 1) * q) := by
      have := EQ.out
      unfold Hid
      rw [Nat.add_mul, Nat.one_mul]
      omega
     have GV := hid ((GZ.out.now bv).more16 (show 1 + m * q ≤ 1 + (m + 1) * q by rw [Nat.add_mul]; omega))
     have Z9V := hid ((Z9.out.now bv).more KQ.out)
     have BV := hid (below_step B.out bv)
     have EV := hid hV
     have hlen : (trL n P m).length ≤ 1000000000 := by rw [TL.out]; omega
     clear bv szv hV dv GZ B Z9
     go_wp2_with (at_builtin; rw [EV.out]; refine wpList_append_int V rfl (.tmp 57) (.tmp 60) rfl w.heap.size (1 + (m + 1) * q) (.slice a m cap) (.bool n9) (.slice a9 l9 c9) (trL n P m) (-(nwS n P (trL n P m) m m)) rfl GV.out w9.heap.size rfl HC0.out HC1.out Z9V.out hlen BV.out.size ?_)
     intro a3 cap3 w3 hi3 _ _ hb3
     have hi4 := hi3.out
     rw [TL.out] at hi4
     try rw [TL.out]
     have HN1 : Hid (TrH w n d P q (d - C1) (.slice a3 (m + 1) cap3) (.int .i64 ((C1 + 1 : Nat) : Int)) w3) := ⟨m + 1, cap3, a3, by rw [EC1.out], by omega, by rw [EC1.out], rfl, hi4, BV.out.trans hb3.out⟩
     have hwc := wrapI9 (i := C1) (by omega)
     have HLE := EC1
     clear hi3 hi4 hb3 GV Z9V BV EV HC0 HC1 D8 Z8 KQ hlen
     go_wp2_with fail
     go_roundg (d - C1)
     case rel => exact HN1.out
     case measure => exact HMM.out
  ·have hlt' : ¬ (C1 : Int) ≤ (d : Int) := by omega
   obtain rfl : c = d := by omega
   have FIN : Hid (Traced w n c P (1 + c * q) (.returned (.slice a c cap)) wr) := ⟨a, cap, rfl, GZ.out.zl (by rw [TL.out]; omega), B.out⟩
   clear GZ B HG
   go_wp2
   go_ret
   exact FIN.out
end Go.Proofs.YtnpcfohimlfbdaaGreat
