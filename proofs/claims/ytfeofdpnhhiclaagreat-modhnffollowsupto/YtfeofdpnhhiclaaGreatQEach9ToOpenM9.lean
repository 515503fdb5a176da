/-
 QEach9ToOpenM9: Each9, DotsA9, ColsP9, Cols9, Prod9, Mat9, Chk9, Mul9, Unit9, Add9, Law9, Wake9, OpenM9, joined.
-/
import Derived.Test.YtfeofdpnhhiclaaGreatQCat9
import Derived.Test.YtfeofdpnhhiclaaGreatQAlikeToShift

set_option maxRecDepth 100000
set_option maxHeartbeats 6400000
set_option linter.unusedVariables false
set_option linter.unusedSimpArgs false
namespace Go.Proofs.YtfeofdpnhhiclaaGreat
open Go.RowKit
abbrev mbox : Obj := .cells #[.int .i64 0,.int .i64 0,.slice none 0 0] 24
def zgH (w : World) (r c : Nat) (ps : List (Value × Value)) (e : Ending) (w' : World) : Prop := ∃ at_,e = .returned (matv r c at_) ∧ Prs w.heap.size w' at_ ps ∧ Below w.heap.size w w'
theorem zRD {w W0 : World} (hW : w.alloc mbox = W0) : Cel W0 w.heap.size 24 [.int .i64 0,.int .i64 0,.slice none 0 0] := by rw [← hW];exact Cel.new w _ _
theorem ofRows_any {w : World} {B m C R : Nat} {v : Value} {pss : List (List (Value × Value))} (hv : Prr B w v pss) (hm : ztG m pss) (hl : pss.length * m ≤ 1048576) (hm1 : m ≤ 1048576) (hR : pss.length = R) :
  Calls Tryz.prog 120 #[v,.int .i64 (C : Int)] w (zgH w R C pss.flatten) := by
 obtain ⟨W0,hW⟩ : ∃ W0,w.alloc mbox = W0 := ⟨_,rfl⟩
 obtain ⟨b0,sz0⟩ := alo1 w mbox;rw [hW] at b0 sz0;have P4 := hid (zRD hW);have HC := hid (zSE (hv.now b0) hm hl hm1);obtain ⟨a0,c0,rfl,hc0,hn0,hf0⟩ := hv.form;rw [hR] at HC hc0 hn0 ⊢;generalize pss.flatten = FT at *;have G0 := hid b0;have EW := hid hW;have SZ := hid sz0;clear b0 hW sz0 hv hm hf0 hR hl;go_enter Tryz.func120,Tryz.ntmps120;go_wp2_with fail;rw [EW.out];refine HC.out.mono ?_;rintro e w1 ⟨u,rfl,p1,b⟩;obtain ⟨au,cu,rfl,-,-,-,-⟩ := p1.form;have P41 := hid (P4.out.step b);have G1 := hid (below_step G0.out b);have HP := hid p1;have r0 := P41.out.at (i := 0) rfl;have r1 := P41.out.at (i := 1) rfl;have r2 := P41.out.at (i := 2) rfl;have f0 := P41.out.fz 0;have f1 := P41.out.fz 1;have f2 := P41.out.fz 2;have HB : Hid (w.heap.size < W0.heap.size) := by unfold Hid;rw [SZ.out];omega
 have FIN : Hid (zgH w R C FT (.returned (.agg #[.int .i64 (R : Int),.int .i64 (C : Int),.slice au FT.length cu])) (put3 w1 w.heap.size (.int .i64 (R : Int)) (.int .i64 (C : Int)) (.slice au FT.length cu))) := ⟨_,rfl,(HP.out.put3 HB.out _ _ _).mono (Nat.le_of_lt HB.out),zNA G1.out (Nat.le_refl _) _ _ _⟩
 have PF := hid (P41.out.put3 (.int .i64 (R : Int)) (.int .i64 (C : Int)) (.slice au FT.length cu));clear HC P4 G0 EW p1 b SZ HP G1 P41;go_wp2;exact bodyPost_ret (zgD Tryz.results120 PF.out _ (by rfl)) rfl FIN.out
def zsE (w : World) (g n : Nat) (F : Nat → Int) (k gk : Nat) (s : Value) (wx : World) : Prop :=
 ∃ i : Nat,s = .int .i64 (i : Int) ∧ i ≤ n ∧ gk = n - i ∧ Fil wx g n i F k ∧ Below w.heap.size w wx
def zWE (w : World) (zs : List Int) (k : Nat) (e : Ending) (w' : World) : Prop := ∃ u ps,e = .returned u ∧ Prs w.heap.size w' u ps ∧ Zcs w' ps zs k ∧ Below w.heap.size w w'
def Ziss (w : World) (pss : List (List (Value × Value))) (zss : List (List Int)) (k : Nat) : Prop := pss.length = zss.length ∧ ∀ (j : Nat) (ps : List (Value × Value)),pss[j]? = some ps → Zis w ps (zss.getD j []) k
theorem Ziss.now {w w' : World} {pss : List (List (Value × Value))} {zss : List (List Int)} {k : Nat} (h : Ziss w pss zss k) (hb : Below w.heap.size w w') : Ziss w' pss zss k := ⟨h.1,fun j ps hp => (h.2 j ps hp).now hb⟩
structure Kp (N g : Nat) (w wx : World) : Prop where
 os : wx.os = w.os
 tape : wx.tape = w.tape
 output : wx.output = w.output
 size : w.heap.size ≤ wx.heap.size
 block : ∀ b,b < N → b ≠ g → wx.heap[b]? = w.heap[b]?

def Zcss (w : World) (pss : List (List (Value × Value))) (zss : List (List Int)) (k : Nat) : Prop := pss.length = zss.length ∧ ∀ (j : Nat) (ps : List (Value × Value)),pss[j]? = some ps → Zcs w ps (zss.getD j []) k
theorem Zcs.append {w : World} {ps qs : List (Value × Value)} {zs ys : List Int} {k : Nat} (h : Zcs w ps zs k) (h' : Zcs w qs ys k) : Zcs w (ps ++ qs) (zs ++ ys) k := by
 refine ⟨by simp [h.1,h'.1],fun j p z hp hz => ?_⟩
 by_cases q : j < ps.length
 ·rw [List.getElem?_append_left q] at hp
  rw [List.getElem?_append_left (by rw [← h.1];exact q)] at hz;exact h.2 j p z hp hz
 ·rw [List.getElem?_append_right (by omega)] at hp
  rw [List.getElem?_append_right (by rw [← h.1];omega),← h.1] at hz;exact h'.2 _ p z hp hz
theorem Zcss.flat {w : World} {k : Nat} : ∀ {pss : List (List (Value × Value))} {zss : List (List Int)},Zcss w pss zss k → Zcs w pss.flatten zss.flatten k
 | [],[],_ => ⟨rfl,fun j p z hp => by simp at hp⟩
 | [],z :: zss,h => by have := h.1;simp at this
 | p :: pss,[],h => by have := h.1;simp at this
 | p :: pss,z :: zss,h => by
  have h1 := h.2 0 p rfl;have h2 : Zcss w pss zss k := ⟨by have := h.1;simpa using this,fun j ps hp => by simpa using h.2 (j + 1) ps (by simpa using hp)⟩
  simpa using Zcs.append h1 (Zcss.flat h2)
theorem Zis.isI {w : World} {ps : List (Value × Value)} {zs : List Int} {k : Nat} (h : Zis w ps zs k) : ∀ p ∈ ps,IsI p := fun p hp => by
 obtain ⟨j,hj,e⟩ := List.getElem_of_mem hp;have h1 : ps[j]? = some p := by rw [List.getElem?_eq_getElem hj,e]
 have h2 : zs[j]? = some (zs[j]'(by rw [← h.1];exact hj)) := List.getElem?_eq_getElem _;exact (h.2 j p _ h1 h2).isI
def zxG (w : World) (zss : List (List Int)) (k : Nat) (e : Ending) (w' : World) : Prop := ∃ u pss,e = .returned u ∧ Prr w.heap.size w' u pss ∧ Zcss w' pss zss k ∧ Below w.heap.size w w'
theorem filR_grid {w : World} {g n B k : Nat} {zss : List (List Int)} (h : FilR w g n n (fun j u => ∃ ps,Prs B w u ps ∧ Zcs w ps (zss.getD j []) k)) (hl : zss.length = n) (hn : n ≤ 1048576) : ∃ pss,Prr B w (.slice (some ⟨g,0,none⟩) n n) pss ∧ Zcss w pss zss k := by
 have h0 := h;obtain ⟨vs,h1,h2,hw,h3⟩ := h;obtain ⟨q,hq⟩ := Deep.choose_lt (α := List (Value × Value)) (n := n) (p := fun j ps => ∀ u,vs[j]? = some u → Prs B w u ps ∧ Zcs w ps (zss.getD j []) k) (fun j hj => by
  obtain ⟨ps,p1,p2⟩ := h3 j _ hj (List.getElem?_eq_getElem (by omega));refine ⟨ps,fun u hu => ?_⟩;rw [List.getElem?_eq_getElem (by omega),Option.some.injEq] at hu;rw [← hu];exact ⟨p1,p2⟩)
 have key : ∀ j ps,((List.range n).map q)[j]? = some ps → j < n ∧ ps = q j := fun j ps hp => by
  have hj : j < n := by simpa using (List.getElem?_eq_some_iff.1 hp).1
  rw [List.getElem?_map,List.getElem?_range hj] at hp;exact ⟨hj,by simpa using hp.symm⟩
 have hv : ∀ j (hj : j < n),vs[j]? = some (vs[j]'(by omega)) := fun j hj => List.getElem?_eq_getElem (by omega)
 refine ⟨(List.range n).map q,⟨some ⟨g,0,none⟩,n,by simp,by simp,by simpa using hn,.inr ⟨g,0,rfl,h1.blk,fun j ps hp => ?_⟩⟩,by simp [hl],fun j ps hp => ?_⟩
 ·obtain ⟨hj,rfl⟩ := key j ps hp
  exact ⟨_,by rw [Nat.zero_add];exact h1.at (hv j hj),(hq j hj _ (hv j hj)).1⟩
 ·obtain ⟨hj,rfl⟩ := key j ps hp
  exact (hq j hj _ (hv j hj)).2
def zyH (w : World) (g n k : Nat) (zss : List (List Int)) (gk : Nat) (s : Value) (wx : World) : Prop :=
 ∃ i : Nat,s = .int .i64 (i : Int) ∧ i ≤ n ∧ gk = n - i ∧ FilR wx g n i (fun j u => ∃ ps,Prs (g + 1) wx u ps ∧ Zcs wx ps (zss.getD j []) k) ∧ Below w.heap.size w wx
def Mx (w : World) (v : Value) (r c : Nat) (zs : List Int) (k : Nat) : Prop := ∃ at_ ps,v = matv r c at_ ∧ Prs 0 w at_ ps ∧ Zis w ps zs k ∧ zs.length = r * c ∧ r ≤ 64 ∧ c ≤ 64
def Mc (w : World) (v : Value) (r c : Nat) (zs : List Int) (k : Nat) : Prop := ∃ at_ ps,v = matv r c at_ ∧ Prs 0 w at_ ps ∧ Zcs w ps zs k ∧ zs.length = r * c ∧ r ≤ 64 ∧ c ≤ 64
theorem Mx.now {w w' : World} {v : Value} {r c : Nat} {zs : List Int} {k : Nat} (h : Mx w v r c zs k) (hb : Below w.heap.size w w') : Mx w' v r c zs k := by
 obtain ⟨a,ps,h1,h2,h3,h4⟩ := h;exact ⟨a,ps,h1,h2.now hb,h3.now hb,h4⟩
theorem Mc.now {w w' : World} {v : Value} {r c : Nat} {zs : List Int} {k : Nat} (h : Mc w v r c zs k) (hb : Below w.heap.size w w') : Mc w' v r c zs k := by
 obtain ⟨a,ps,h1,h2,h3,h4⟩ := h;exact ⟨a,ps,h1,h2.now hb,h3.now hb,h4⟩
theorem Mc.mx {w : World} {v : Value} {r c : Nat} {zs : List Int} {k : Nat} (h : Mc w v r c zs k) : Mx w v r c zs k := by
 obtain ⟨a,ps,h1,h2,h3,h4⟩ := h;exact ⟨a,ps,h1,h2,h3.zis,h4⟩
theorem Mx.form {w : World} {v : Value} {r c : Nat} {zs : List Int} {k : Nat} (h : Mx w v r c zs k) : ∃ a cap,v = matv r c (.slice a (r * c) cap) ∧ r ≤ 64 ∧ c ≤ 64 := by
 obtain ⟨a,ps,h1,h2,h3,h4,h5,h6⟩ := h;obtain ⟨a0,c0,rfl,-,-,-,-⟩ := h2.form;rw [h3.1,h4] at h1;exact ⟨a0,c0,h1,h5,h6⟩
def zxD (w : World) (r c : Nat) (zs : List Int) (k : Nat) (e : Ending) (w' : World) : Prop := ∃ v,e = .returned v ∧ Mc w' v r c zs k ∧ Below w.heap.size w w'
theorem ziss_rows {w : World} {ps : List (Value × Value)} {xs : List Int} {k r m : Nat} (h : Zis w ps xs k) : Ziss w (rowsL r m ps) (rowsL r m xs) k := by
 refine ⟨by simp [rowsL],fun j qs hq => ?_⟩;have hj : j < r := by simpa [rowsL] using (List.getElem?_eq_some_iff.1 hq).1
 rw [znF hj,Option.some.injEq] at hq;have e : (rowsL r m xs).getD j [] = (xs.drop (j * m)).take m := by simp [rowsL,hj]
 rw [e,← hq];refine ⟨by simp [h.1],fun t p z hp hz => ?_⟩;rw [List.getElem?_take] at hp hz
 by_cases q : t < m
 ·rw [if_pos q,List.getElem?_drop] at hp hz
  exact h.2 _ p z hp hz
 ·rw [if_neg q] at hp;cases hp
theorem rows_len {r m : Nat} {xs : List Int} (hl : xs.length = r * m) : ∀ row ∈ rowsL r m xs,row.length = m := by
 intro row hrow;simp only [rowsL,List.mem_map,List.mem_range] at hrow;obtain ⟨i,hi,rfl⟩ := hrow;have h5 : (i + 1) * m ≤ r * m := Nat.mul_le_mul_right m hi;have h6 : (i + 1) * m = i * m + m := by rw [Nat.add_mul,Nat.one_mul]
 simp
 omega
theorem same_of {w : World} {pss : List (List (Value × Value))} {zss : List (List Int)} {k m : Nat} (h : Zcss w pss zss k) (hl : ∀ z ∈ zss,z.length = m) : ztG m pss := by
 intro ps hps;obtain ⟨j,hj,e⟩ := List.getElem_of_mem hps;have h1 : pss[j]? = some ps := by rw [List.getElem?_eq_getElem hj,e]
 have hz := h.2 j ps h1;have hj2 : j < zss.length := by rw [← h.1];exact hj
 refine ⟨?_,hz.zis.isI⟩;rw [hz.1];have e2 : zss.getD j [] = zss[j] := by simp [hj2]
 rw [e2];exact hl _ (List.getElem_mem hj2)
abbrev matO (r c : Nat) (at_ : Value) : Obj := .cells #[.int .i64 (r : Int),.int .i64 (c : Int),at_] 24
theorem zpB {w : World} {r c : Nat} (hr : r ≤ 64) (hc : c ≤ 64) : Calls Tryz.prog 27 #[.int .i64 (r : Int),.int .i64 (c : Int)] w fun e w' => e = .returned (.bool true) ∧ w' = w := by
 have h1 : (0 : Int) ≤ (r : Int) := by omega
 have h2 : (0 : Int) ≤ (c : Int) := by omega
 have h3 : (r : Int) ≤ 64 := by omega
 have h4 : (c : Int) ≤ 64 := by omega
 have h5 : max (r : Int) (c : Int) ≤ 64 := by omega
 have h6 : 0 ≤ min (r : Int) (c : Int) := by omega
 go_enter Tryz.func27,Tryz.ntmps27;go_wp2;go_ret;exact ⟨rfl,rfl⟩
theorem zqC {w : World} {v : Value} {r c : Nat} {zs : List Int} {k : Nat} (h : Mx w v r c zs k) : Calls Tryz.prog 7 #[v] w fun e w' => e = .returned (.int .i64 0) ∧ Below w.heap.size w w' := by
 obtain ⟨a,cap,rfl,hr,hc⟩ := h.form;have hm0 := zaC (i := r) (c := c) hr hc;obtain ⟨n,hn⟩ : ∃ n,r * c = n := ⟨_,rfl⟩
 rw [hn] at hm0;have hm2 := hm0;rw [IntKind.wrap_i64] at hm2;rw [hn];obtain ⟨W0,hW⟩ : ∃ W0,w.alloc (matO r c (.slice a n cap)) = W0 := ⟨_,rfl⟩
 obtain ⟨b0,sz0⟩ := alo1 w (matO r c (.slice a n cap));rw [hW] at b0 sz0;have P1 : Hid (Cel W0 w.heap.size 24 (matc r c (.slice a n cap))) := by unfold Hid;rw [← hW];exact Cel.new w _ _
 have x0 := P1.out.at (i := 0) rfl;have x1 := P1.out.at (i := 1) rfl;have x2 := P1.out.at (i := 2) rfl;rw [← hW] at x0 x1 x2;have HS := hid (zpB (w := W0) hr hc);have G0 := hid b0;have EW := hid hW;have q0 : ((n : Int) != (n : Int)) = false := by simp
 clear b0 sz0 hW h hn P1;go_enter Tryz.func7,Tryz.ntmps7;go_wp2_with fail;rw [EW.out];refine HS.out.mono ?_;rintro e w1 ⟨rfl,rfl⟩;rw [EW.out] at x0 x1 x2;go_wp2;go_ret;exact ⟨rfl,G0.out⟩
def zrE (w : World) (r c : Nat) (zs : List Int) (k : Nat) (e : Ending) (w' : World) : Prop := ∃ v,e = .returned (.tuple #[v,.int .i64 0]) ∧ Mc w' v r c zs k ∧ Below w.heap.size w w'
theorem Mc.wk {w : World} {v : Value} {r c : Nat} {zs : List Int} {k b : Nat} (h : Mc w v r c zs k) {x0 x1 : Int} {a : Option Addr} {l n : Nat} (d : Cel w b 24 [.int .i64 x0,.int .i64 x1,.slice a l n]) (y0 y1 y2 : Value) : Mc (put3 w b y0 y1 y2) v r c zs k := by
 obtain ⟨at_,ps,h1,h2,h3,h4⟩ := h;refine ⟨at_,ps,h1,?_,h3.wk (d.wk3 _ _ _),h4⟩;obtain ⟨a',c',e1,e2,e3,e4,e5⟩ := h2;refine ⟨a',c',e1,e2,e3,e4,?_⟩;rcases e5 with e5 | ⟨b',off,e6,e7,e8,e9⟩
 ·exact .inl e5
 ·refine .inr ⟨b',off,e6,e7,by simpa using e8,fun j p hp => ?_⟩
  have hne : b ≠ b' := by
   intro e;subst e;have hz : zs[j]? = some (zs[j]'(by rw [← h3.1];exact (List.getElem?_eq_some_iff.1 hp).1)) := List.getElem?_eq_getElem _;obtain ⟨n1,a1,l1,c1,q⟩ := (h3.2 j p _ hp hz).zi.isI;have q1 := (e9 j p hp).1;rw [show p.1 = .bool n1 by rw [Prod.mk.injEq] at q;exact q.1] at q1;have q2 : w.heap[b]? = some (.cells #[.int .i64 x0,.int .i64 x1,.slice a l n] 24 (0,0)) := d;simp only [World.cell?,q2] at q1;simp at q1;generalize off + j * 2 = o at q1
   match o,q1 with
   | 0,q1 => simp at q1
   | 1,q1 => simp at q1
   | 2,q1 => simp at q1
   | o + 3,q1 => simp at q1
  have e : ∀ o,(put3 w b y0 y1 y2).cell? ⟨b',o,none⟩ = w.cell? ⟨b',o,none⟩ := fun o => by
   rw [World.cell?_setCell_other _ _ _ _ (by simp <;> omega),World.cell?_setCell_other _ _ _ _ (by simp <;> omega),World.cell?_setCell_other _ _ _ _ (by simp <;> omega)]
  rw [e,e];exact e9 j p hp
theorem Arr.ne {w : World} {g b i : Nat} {u : Value} {ps : List (Value × Value)} (h : Arr w g ps) (hne : b ≠ g) : Arr (w.setCell ⟨b,i,none⟩ u) g ps := ⟨h.1.ne hne,h.2⟩
theorem Arr.put3 {w : World} {g b : Nat} {ps : List (Value × Value)} (h : Arr w g ps) (hne : b ≠ g) (y0 y1 y2 : Value) : Arr (put3 w b y0 y1 y2) g ps := ((h.ne hne).ne hne).ne hne
def zqG (w : World) (r c n : Nat) (e : Ending) (w' : World) : Prop := ∃ g,e = .returned (.tuple #[matv r c (.slice (some ⟨g,0,none⟩) n n),.int .i64 0]) ∧ w.heap.size ≤ g ∧ Arr w' g (List.replicate n zyD) ∧ Below w.heap.size w w'
theorem zero_any {w : World} {r c : Nat} (hr : r ≤ 64) (hc : c ≤ 64) : Calls Tryz.prog 34 #[.int .i64 (r : Int),.int .i64 (c : Int)] w (zqG w r c (r * c)) := by
 obtain ⟨W0,hW⟩ : ∃ W0,w.alloc mbox = W0 := ⟨_,rfl⟩
 obtain ⟨b0,sz0⟩ := alo1 w mbox;rw [hW] at b0 sz0;have P4 := hid (zRD hW);have HS := hid (zpB (w := W0) hr hc);have hm0 := zaC (i := r) (c := c) hr hc;have hrc : r * c ≤ 64 * 64 := Nat.mul_le_mul hr hc;generalize r * c = n at *;have hm2 := hm0;rw [IntKind.wrap_i64] at hm2;have G0 := hid b0;have EW := hid hW;have SZ := hid sz0;clear b0 hW sz0;go_enter Tryz.func34,Tryz.ntmps34;go_wp2_with fail;rw [EW.out];refine HS.out.mono ?_;rintro e w1 ⟨rfl,hw1⟩;have hw1' := hw1.symm;subst hw1';go_wp2_with (at_make;refine zdA _ rfl _ _ rfl _ _ n n rfl rfl rfl rfl (Nat.le_refl _) (by omega) ?_)
 intro w2 hrow hb2 hsz2;have PR := hid (P4.out.step hb2);have r0 := PR.out.at (i := 0) rfl;have r1 := PR.out.at (i := 1) rfl;have r2 := PR.out.at (i := 2) rfl;have f0 := PR.out.fz 0;have f1 := PR.out.fz 1;have f2 := PR.out.fz 2;have FIN : Hid (zqG w r c n (.returned (.tuple #[.agg #[.int .i64 (r : Int),.int .i64 (c : Int),.slice (some ⟨W0.heap.size,0,none⟩) n n],.int .i64 0])) (put3 w2 w.heap.size (.int .i64 (r : Int)) (.int .i64 (c : Int)) (.slice (some ⟨W0.heap.size,0,none⟩) n n))) :=
  ⟨_,rfl,by have := SZ.out;omega,hrow.put3 (by have := SZ.out;omega) _ _ _,zNA (below_step G0.out hb2) (Nat.le_refl _) _ _ _⟩
 have PF := hid (PR.out.put3 (.int .i64 (r : Int)) (.int .i64 (c : Int)) (.slice (some ⟨W0.heap.size,0,none⟩) n n));clear HS P4 hrow hb2 hsz2 hw1 G0;go_wp2;exact bodyPost_ret (zHE Tryz.results34 PF.out _ (by rfl) (by rfl)) rfl FIN.out
theorem Zcs.set {w w' : World} {ps : List (Value × Value)} {zs : List Int} {k t : Nat} {x y : Value} {z : Int} (h : Zcs w ps zs k) (hk : Wk w w') (hz : Zc w' (.agg #[x,y]) z k) : Zcs w' (ps.set t (x,y)) (zs.set t z) k := by
 refine ⟨by simp [h.1],fun j p q hp hq => ?_⟩
 by_cases e : j = t
 ·subst e
  have h1 : j < ps.length := by simpa using (List.getElem?_eq_some_iff.1 hp).1
  rw [List.getElem?_set_self h1,Option.some.injEq] at hp;rw [List.getElem?_set_self (by rw [← h.1];exact h1),Option.some.injEq] at hq;rw [← hp,← hq];exact hz
 ·rw [List.getElem?_set_ne (by omega)] at hp hq
  exact (h.2 j p q hp hq).wk hk
theorem zXE (w : World) (n k : Nat) : Zcs w (List.replicate n zyD) (List.replicate n 0) k := by
 refine ⟨by simp,fun j p z hp hz => ?_⟩;have e1 : p = zyD := List.eq_of_mem_replicate (List.mem_of_getElem? hp);have e2 : z = 0 := List.eq_of_mem_replicate (List.mem_of_getElem? hz);rw [e1,e2];exact ⟨false,[],none,0,rfl,Sl.nil _,⟨WF.nil,rfl⟩,fun _ => rfl,by simp [iv,val],Nat.zero_le _⟩

def Snd (r c : Int) (l : Nat) : Prop := 0 ≤ r ∧ r ≤ 64 ∧ 0 ≤ c ∧ c ≤ 64 ∧ (l : Int) = r * c

open Go.ChangeShapes Go.WideShapes Go.ChangeAt Go.RowKit
theorem Tryz.cellsM9 : Tryz.prog.cellsOf 24 = 3 := by kernel_rfl
theorem Tryz.cellsI9 : Tryz.prog.cellsOf 3 = 1 := by kernel_rfl
theorem Tryz.cellsL9 : Tryz.prog.cellsOf 22 = 1 := by kernel_rfl
def Raw (w : World) (v : Value) (r c : Int) (l : Nat) (zs : List Int) : Prop := ∃ a cap ps,v = .agg #[.int .i64 r,.int .i64 c,.slice a l cap] ∧ Prs 0 w (.slice a l cap) ps ∧ Zis w ps zs 1048576 ∧ zs.length = l ∧ l ≤ 1048576
theorem Raw.mx {w : World} {v : Value} {r c l : Nat} {zs : List Int} (h : Raw w v (r : Int) (c : Int) l zs) (hs : Snd (r : Int) (c : Int) l) : Mx w v r c zs 1048576 := by
 obtain ⟨a,cap,ps,h1,h2,h3,h4,h5⟩ := h;obtain ⟨s1,s2,s3,s4,s5⟩ := hs;exact ⟨_,ps,h1,h2,h3,by rw [h4];exact Int.ofNat.inj (by simpa using s5),by omega,by omega⟩
theorem trod_struct3m {H : Type} {enc : TypeId × Value → H} {P : Program} {w : World} {base : Nat} {spare : Nat → Bool} {held : Bool} {t : TypeId} {f0 f1 f2 : Field} {fuel : Nat} {cs : List Value} {x : DataW H × List MemPlace} (ht : P.underlying t = some (.struct #[f0,f1,f2]))
  (h : DataW.trod enc P w base spare held fuel t cs = some x) :
  ∃ y0 y1 y2 n,x.1 = .agg [y0.1,y1.1,y2.1] ∧ cs.length = P.cellsOf t ∧ DataW.trod enc P w base spare held n f0.type ((cs.drop f0.offset).take (P.cellsOf f0.type)) = some y0 ∧ DataW.trod enc P w base spare held n f1.type ((cs.drop f1.offset).take (P.cellsOf f1.type)) = some y1 ∧ DataW.trod enc P w base spare held n f2.type ((cs.drop f2.offset).take (P.cellsOf f2.type)) = some y2 := by
 obtain ⟨xs,n,_,rfl,hl,hlen,hf⟩ := DataW.trod_struct ht h
 match xs,hlen with
 | [y0,y1,y2],_ => exact ⟨y0,y1,y2,n,by simp,hl,by simpa using hf 0 f0 rfl,by simpa using hf 1 f1 rfl,by simpa using hf 2 f2 rfl⟩
theorem open_list9 {H : Type} {enc : TypeId × Value → H} {W : World} {fuel : Nat} {v : Value} {y : DataW H × List MemPlace}
  (hf : DataW.trod enc Tryz.prog W 0 (fun _ => true) true fuel 22 [v] = some y) (hb : Rows.uptoBulk y.1 ≤ 1048576) :
  ∃ a l cap ps zs,v = .slice a l cap ∧ Prs 0 W (.slice a l cap) ps ∧ Zis W ps zs 1048576 ∧ zs.length = l ∧ l ≤ 1048576 := by
 have hn : ∀ c,v = .slice none 0 c → c = 0 := by
  rcases Deep.open_slice Tryz.underlying22 hf with ⟨hcs,_⟩ | ⟨x,len,cap,m,n,D,Pl,hcs,_⟩
  ·simp only [List.cons.injEq,and_true] at hcs
   intro c e;rw [hcs] at e
   simpa using e.symm
  ·simp only [List.cons.injEq,and_true] at hcs
   intro c e;rw [hcs] at e;simp at e
 obtain ⟨zs,ks,h1,h2⟩ := zGE hf hb;have hz := h1.zl (K := 1048576) (by omega);obtain ⟨ps,p1,p2⟩ := hz.prs hn;obtain ⟨a,c,e,-,hl,-⟩ := hz;subst e;exact ⟨a,zs.length,c,ps,zs,rfl,p1,p2,rfl,hl⟩
theorem open_mat9 {H : Type} {enc : TypeId × Value → H} {W : World} {r : Reach} {b0 : Nat} {v : Value} {d : DataW H} {p : List MemPlace}
  (hv : Value.okWide Tryz.prog W r b0 24 v) (h0 : DataW.Trod enc Tryz.prog W 0 (fun _ => true) true 24 v d p) (hb : Rows.uptoBulk d ≤ 1048576) :
  ∃ r c l zs,Raw W v r c l zs := by
 obtain ⟨cs,rfl,hsz⟩ := okWide_struct Tryz.underlying24 hv;obtain ⟨fuel,hf⟩ := h0;obtain ⟨y0,y1,y2,n,hx,hl,t0,t1,t2⟩ := trod_struct3m Tryz.underlying24 hf;obtain ⟨L,rfl⟩ : ∃ L : List Value,cs = L.toArray := ⟨cs.toList,by simp⟩
 simp only [Value.cells] at hl t0 t1 t2;rw [Tryz.cellsM9] at hl;have hx' : d = .agg [y0.1,y1.1,y2.1] := hx;subst hx';simp only [Rows.uptoBulk,Rows.uptoBulkAll] at hb
 match L,hl with
 | [e0,e1,e2],_ =>
  simp only [Tryz.cellsI9,Tryz.cellsL9,List.drop_zero,List.drop_succ_cons,List.take_succ_cons,List.take_zero] at t0 t1 t2;obtain ⟨k0,q0,_,_⟩ := DataW.trod_int Tryz.underlying3 t0;obtain ⟨k1,q1,_,_⟩ := DataW.trod_int Tryz.underlying3 t1;simp only [List.cons.injEq,and_true] at q0 q1;subst q0 q1;obtain ⟨a,l,cap,ps,zs,rfl,h1,h2,h3,h4⟩ := open_list9 t2 (by omega);exact ⟨_,_,l,zs,a,cap,ps,rfl,h1,h2,h3,h4⟩
end Go.Proofs.YtfeofdpnhhiclaaGreat
