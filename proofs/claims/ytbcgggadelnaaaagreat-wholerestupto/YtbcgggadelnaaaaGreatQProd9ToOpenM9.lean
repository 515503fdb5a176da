/-
 QProd9ToOpenM9: Prod9, Mat9, Chk9, Mul9, Unit9, Add9, Law9, Wake9, OpenM9, joined.
-/
import Derived.Test.YtbcgggadelnaaaaGreatQEach9ToCols9
import Derived.Test.YtbcgggadelnaaaaGreatQAlikeToShift

set_option maxRecDepth 100000
set_option maxHeartbeats 6400000
set_option linter.unusedVariables false
set_option linter.unusedSimpArgs false
namespace Go.Proofs.YtbcgggadelnaaaaGreat
open Go.RowKit
def Zcss (w : World) (pss : List (List (Value × Value))) (zss : List (List Int)) (k : Nat) : Prop := pss.length = zss.length ∧ ∀ (j : Nat) (ps : List (Value × Value)),pss[j]? = some ps → Zcs w ps (zss.getD j []) k
theorem Zcs.append {w : World} {ps qs : List (Value × Value)} {zs ys : List Int} {k : Nat} (h : Zcs w ps zs k) (h' : Zcs w qs ys k) : Zcs w (ps ++ qs) (zs ++ ys) k := by
 refine ⟨by simp [h.1,h'.1],fun j p z hp hz => ?_⟩
 by_cases q : j < ps.length
 ·rw [List.getElem?_append_left q] at hp
  rw [List.getElem?_append_left (by rw [← h.1];exact q)] at hz;exact h.2 j p z hp hz
 ·rw [List.getElem?_append_right (by omega)] at hp
  rw [List.getElem?_append_right (by rw [← h.1];omega),← h.1] at hz;exact h'.2 _ p z hp hz
theorem Zcss.flat {w : World} {k : Nat} : ∀ {pss : List (List (Value × Value))} {zss : List (List Int)},Zcss w pss zss k → Zcs w pss.flatten zss.flatten k
 | [],[],_ => ⟨rfl,fun j p z hp => by simp at hp⟩
 | [],z :: zss,h => by have := h.1;simp at this
 | p :: pss,[],h => by have := h.1;simp at this
 | p :: pss,z :: zss,h => by
  have h1 := h.2 0 p rfl;have h2 : Zcss w pss zss k := ⟨by have := h.1;simpa using this,fun j ps hp => by simpa using h.2 (j + 1) ps (by simpa using hp)⟩
  simpa using Zcs.append h1 (Zcss.flat h2)
theorem Zis.isI {w : World} {ps : List (Value × Value)} {zs : List Int} {k : Nat} (h : Zis w ps zs k) : ∀ p ∈ ps,IsI p := fun p hp => by
 obtain ⟨j,hj,e⟩ := List.getElem_of_mem hp;have h1 : ps[j]? = some p := by rw [List.getElem?_eq_getElem hj,e]
 have h2 : zs[j]? = some (zs[j]'(by rw [← h.1];exact hj)) := List.getElem?_eq_getElem _;exact (h.2 j p _ h1 h2).isI
def Mx (w : World) (v : Value) (r c : Nat) (zs : List Int) (k : Nat) : Prop := ∃ at_ ps,v = matv r c at_ ∧ Prs 0 w at_ ps ∧ Zis w ps zs k ∧ zs.length = r * c ∧ r ≤ 64 ∧ c ≤ 64
def Mc (w : World) (v : Value) (r c : Nat) (zs : List Int) (k : Nat) : Prop := ∃ at_ ps,v = matv r c at_ ∧ Prs 0 w at_ ps ∧ Zcs w ps zs k ∧ zs.length = r * c ∧ r ≤ 64 ∧ c ≤ 64
theorem Mx.now {w w' : World} {v : Value} {r c : Nat} {zs : List Int} {k : Nat} (h : Mx w v r c zs k) (hb : Below w.heap.size w w') : Mx w' v r c zs k := by
 obtain ⟨a,ps,h1,h2,h3,h4⟩ := h;exact ⟨a,ps,h1,h2.now hb,h3.now hb,h4⟩
theorem Mc.now {w w' : World} {v : Value} {r c : Nat} {zs : List Int} {k : Nat} (h : Mc w v r c zs k) (hb : Below w.heap.size w w') : Mc w' v r c zs k := by
 obtain ⟨a,ps,h1,h2,h3,h4⟩ := h;exact ⟨a,ps,h1,h2.now hb,h3.now hb,h4⟩
theorem Mc.mx {w : World} {v : Value} {r c : Nat} {zs : List Int} {k : Nat} (h : Mc w v r c zs k) : Mx w v r c zs k := by
 obtain ⟨a,ps,h1,h2,h3,h4⟩ := h;exact ⟨a,ps,h1,h2,h3.zis,h4⟩
theorem Mx.form {w : World} {v : Value} {r c : Nat} {zs : List Int} {k : Nat} (h : Mx w v r c zs k) : ∃ a cap,v = matv r c (.slice a (r * c) cap) ∧ r ≤ 64 ∧ c ≤ 64 := by
 obtain ⟨a,ps,h1,h2,h3,h4,h5,h6⟩ := h;obtain ⟨a0,c0,rfl,-,-,-,-⟩ := h2.form;rw [h3.1,h4] at h1;exact ⟨a0,c0,h1,h5,h6⟩
def zMH (w : World) (r c : Nat) (zs : List Int) (k : Nat) (e : Ending) (w' : World) : Prop := ∃ v,e = .returned v ∧ Mc w' v r c zs k ∧ Below w.heap.size w w'
theorem ziss_cols {w : World} {ps : List (Value × Value)} {ys : List Int} {k m c : Nat} (h : Zis w ps ys k) (hl : ys.length = m * c) : Ziss w (colsL m c ps zBB) (colsL m c ys 0) k := by
 refine ⟨by simp [colsL],fun j qs hq => ?_⟩;have hj : j < c := by simpa [colsL] using (List.getElem?_eq_some_iff.1 hq).1
 have e : (colsL m c ys 0).getD j [] = colL c ys 0 m j := by simp [colsL,hj]
 have e2 : qs = colL c ps zBB m j := by simp [colsL,hj] at hq;exact hq.symm
 rw [e,e2];refine ⟨by simp [ziB],fun t p z hp hz => ?_⟩;have ht : t < m := by simpa [colL] using (List.getElem?_eq_some_iff.1 hp).1
 have h5 : (t + 1) * c ≤ m * c := Nat.mul_le_mul_right c ht;have h6 : (t + 1) * c = t * c + c := by rw [Nat.add_mul,Nat.one_mul]
 have h7 : t * c + j < ys.length := by omega
 have h8 : t * c + j < ps.length := by rw [h.1];exact h7
 have e3 : p = ps[t * c + j] := by simp [colL,ht,h8] at hp;exact hp.symm
 have e4 : z = ys[t * c + j] := by simp [colL,ht,h7] at hz;exact hz.symm
 rw [e3,e4];exact h.2 _ _ _ (List.getElem?_eq_getElem h8) (List.getElem?_eq_getElem h7)
theorem rows_len {r m : Nat} {xs : List Int} (hl : xs.length = r * m) : ∀ row ∈ rowsL r m xs,row.length = m := by
 intro row hrow;simp only [rowsL,List.mem_map,List.mem_range] at hrow;obtain ⟨i,hi,rfl⟩ := hrow;have h5 : (i + 1) * m ≤ r * m := Nat.mul_le_mul_right m hi;have h6 : (i + 1) * m = i * m + m := by rw [Nat.add_mul,Nat.one_mul]
 simp
 omega
theorem cols_len {m c : Nat} {ys : List Int} : ∀ col ∈ colsL m c ys 0,col.length = m := by
 intro col hcol;simp only [colsL,List.mem_map,List.mem_range] at hcol;obtain ⟨j,hj,rfl⟩ := hcol;exact ziB
abbrev matO (r c : Nat) (at_ : Value) : Obj := .cells #[.int .i64 (r : Int),.int .i64 (c : Int),at_] 24
theorem zaD {w : World} {r c : Nat} (hr : r ≤ 64) (hc : c ≤ 64) : Calls Tryz.prog 56 #[.int .i64 (r : Int),.int .i64 (c : Int)] w fun e w' => e = .returned (.bool true) ∧ w' = w := by
 have h1 : (0 : Int) ≤ (r : Int) := by omega
 have h2 : (0 : Int) ≤ (c : Int) := by omega
 have h3 : (r : Int) ≤ 64 := by omega
 have h4 : (c : Int) ≤ 64 := by omega
 have h5 : max (r : Int) (c : Int) ≤ 64 := by omega
 have h6 : 0 ≤ min (r : Int) (c : Int) := by omega
 go_enter Tryz.func56,Tryz.ntmps56;go_wp2;go_ret;exact ⟨rfl,rfl⟩
theorem zqB {w : World} {v : Value} {r c : Nat} {zs : List Int} {k : Nat} (h : Mx w v r c zs k) : Calls Tryz.prog 25 #[v] w fun e w' => e = .returned (.int .i64 0) ∧ Below w.heap.size w w' := by
 obtain ⟨a,cap,rfl,hr,hc⟩ := h.form;have hm0 := zXF (i := r) (c := c) hr hc;obtain ⟨n,hn⟩ : ∃ n,r * c = n := ⟨_,rfl⟩
 rw [hn] at hm0;have hm2 := hm0;rw [IntKind.wrap_i64] at hm2;rw [hn];obtain ⟨W0,hW⟩ : ∃ W0,w.alloc (matO r c (.slice a n cap)) = W0 := ⟨_,rfl⟩
 obtain ⟨b0,sz0⟩ := alo1 w (matO r c (.slice a n cap));rw [hW] at b0 sz0;have P1 : Hid (Cel W0 w.heap.size 24 (matc r c (.slice a n cap))) := by unfold Hid;rw [← hW];exact Cel.new w _ _
 have x0 := P1.out.at (i := 0) rfl;have x1 := P1.out.at (i := 1) rfl;have x2 := P1.out.at (i := 2) rfl;rw [← hW] at x0 x1 x2;have HS := hid (zaD (w := W0) hr hc);have G0 := hid b0;have EW := hid hW;have q0 : ((n : Int) != (n : Int)) = false := by simp
 clear b0 sz0 hW h hn P1;go_enter Tryz.func25,Tryz.ntmps25;go_wp2_with fail;rw [EW.out];refine HS.out.mono ?_;rintro e w1 ⟨rfl,rfl⟩;rw [EW.out] at x0 x1 x2;go_wp2;go_ret;exact ⟨rfl,G0.out⟩
def zcG (w : World) (r c : Nat) (zs : List Int) (k : Nat) (e : Ending) (w' : World) : Prop := ∃ v,e = .returned (.tuple #[v,.int .i64 0]) ∧ Mc w' v r c zs k ∧ Below w.heap.size w w'
abbrev zmH : Value := .agg #[.int .i64 0,.int .i64 0,.slice none 0 0]
def zdG (w : World) (E : Int) (e : Ending) (w' : World) : Prop := e = .returned (.tuple #[zmH,.int .i64 E]) ∧ Below w.heap.size w w'
theorem Mc.wk {w : World} {v : Value} {r c : Nat} {zs : List Int} {k b : Nat} (h : Mc w v r c zs k) {x0 x1 : Int} {a : Option Addr} {l n : Nat} (d : Cel w b 24 [.int .i64 x0,.int .i64 x1,.slice a l n]) (y0 y1 y2 : Value) : Mc (put3 w b y0 y1 y2) v r c zs k := by
 obtain ⟨at_,ps,h1,h2,h3,h4⟩ := h;refine ⟨at_,ps,h1,?_,h3.wk (d.wk3 _ _ _),h4⟩;obtain ⟨a',c',e1,e2,e3,e4,e5⟩ := h2;refine ⟨a',c',e1,e2,e3,e4,?_⟩;rcases e5 with e5 | ⟨b',off,e6,e7,e8,e9⟩
 ·exact .inl e5
 ·refine .inr ⟨b',off,e6,e7,by simpa using e8,fun j p hp => ?_⟩
  have hne : b ≠ b' := by
   intro e;subst e;have hz : zs[j]? = some (zs[j]'(by rw [← h3.1];exact (List.getElem?_eq_some_iff.1 hp).1)) := List.getElem?_eq_getElem _;obtain ⟨n1,a1,l1,c1,q⟩ := (h3.2 j p _ hp hz).zi.isI;have q1 := (e9 j p hp).1;rw [show p.1 = .bool n1 by rw [Prod.mk.injEq] at q;exact q.1] at q1;have q2 : w.heap[b]? = some (.cells #[.int .i64 x0,.int .i64 x1,.slice a l n] 24 (0,0)) := d;simp only [World.cell?,q2] at q1;simp at q1;generalize off + j * 2 = o at q1
   match o,q1 with
   | 0,q1 => simp at q1
   | 1,q1 => simp at q1
   | 2,q1 => simp at q1
   | o + 3,q1 => simp at q1
  have e : ∀ o,(put3 w b y0 y1 y2).cell? ⟨b',o,none⟩ = w.cell? ⟨b',o,none⟩ := fun o => by
   rw [World.cell?_setCell_other _ _ _ _ (by simp <;> omega),World.cell?_setCell_other _ _ _ _ (by simp <;> omega),World.cell?_setCell_other _ _ _ _ (by simp <;> omega)]
  rw [e,e];exact e9 j p hp
theorem Arr.ne {w : World} {g b i : Nat} {u : Value} {ps : List (Value × Value)} (h : Arr w g ps) (hne : b ≠ g) : Arr (w.setCell ⟨b,i,none⟩ u) g ps := ⟨h.1.ne hne,h.2⟩
theorem Arr.put3 {w : World} {g b : Nat} {ps : List (Value × Value)} (h : Arr w g ps) (hne : b ≠ g) (y0 y1 y2 : Value) : Arr (put3 w b y0 y1 y2) g ps := ((h.ne hne).ne hne).ne hne

theorem Zcs.at9 {B : Nat} {w : World} {b off l c : Nat} {ps : List (Value × Value)} {zs : List Int} {k : Nat} (h : Prs B w (.slice (some ⟨b,off,none⟩) l c) ps) (hz : Zcs w ps zs k) {i : Nat} (hi : i < zs.length) : ∃ n,∃ xs : List Int,∃ a c,w.cell? ⟨b,off + i * 2,none⟩ = some (.bool n) ∧ w.cell? ⟨b,off + i * 2 + 1,none⟩ = some (.slice a xs.length c) ∧ Zc w (.agg #[.bool n,.slice a xs.length c]) zs[i] k := by
 have hp : ps[i]? = some (ps[i]'(by rw [hz.1];exact hi)) := List.getElem?_eq_getElem _;have q := h.at hp;have z := hz.2 i _ _ hp (List.getElem?_eq_getElem hi);have z' := z;obtain ⟨n,xs,a,c,e,-⟩ := z;simp only [Value.agg.injEq,Array.mk.injEq,List.cons.injEq,and_true] at e;rw [e.1,e.2] at q;rw [e.1,e.2] at z';exact ⟨n,xs,a,c,q.1,q.2,z'⟩
def Snd (r c : Int) (l : Nat) : Prop := 0 ≤ r ∧ r ≤ 64 ∧ 0 ≤ c ∧ c ≤ 64 ∧ (l : Int) = r * c

open Go.ChangeShapes Go.WideShapes Go.ChangeAt Go.RowKit
theorem Tryz.cellsM9 : Tryz.prog.cellsOf 24 = 3 := by kernel_rfl
theorem Tryz.cellsI9 : Tryz.prog.cellsOf 3 = 1 := by kernel_rfl
theorem Tryz.cellsL9 : Tryz.prog.cellsOf 22 = 1 := by kernel_rfl
def Raw (w : World) (v : Value) (r c : Int) (l : Nat) (zs : List Int) : Prop := ∃ a cap ps,v = .agg #[.int .i64 r,.int .i64 c,.slice a l cap] ∧ Prs 0 w (.slice a l cap) ps ∧ Zis w ps zs 1048576 ∧ zs.length = l ∧ l ≤ 1048576
theorem Raw.now {w w' : World} {v : Value} {r c : Int} {l : Nat} {zs : List Int} (h : Raw w v r c l zs) (hb : Below w.heap.size w w') : Raw w' v r c l zs := by
 obtain ⟨a,cap,ps,h1,h2,h3,h4⟩ := h;exact ⟨a,cap,ps,h1,h2.now hb,h3.now hb,h4⟩
theorem Raw.mx {w : World} {v : Value} {r c l : Nat} {zs : List Int} (h : Raw w v (r : Int) (c : Int) l zs) (hs : Snd (r : Int) (c : Int) l) : Mx w v r c zs 1048576 := by
 obtain ⟨a,cap,ps,h1,h2,h3,h4,h5⟩ := h;obtain ⟨s1,s2,s3,s4,s5⟩ := hs;exact ⟨_,ps,h1,h2,h3,by rw [h4];exact Int.ofNat.inj (by simpa using s5),by omega,by omega⟩
theorem trod_struct3m {H : Type} {enc : TypeId × Value → H} {P : Program} {w : World} {base : Nat} {spare : Nat → Bool} {held : Bool} {t : TypeId} {f0 f1 f2 : Field} {fuel : Nat} {cs : List Value} {x : DataW H × List MemPlace} (ht : P.underlying t = some (.struct #[f0,f1,f2]))
  (h : DataW.trod enc P w base spare held fuel t cs = some x) :
  ∃ y0 y1 y2 n,x.1 = .agg [y0.1,y1.1,y2.1] ∧ cs.length = P.cellsOf t ∧ DataW.trod enc P w base spare held n f0.type ((cs.drop f0.offset).take (P.cellsOf f0.type)) = some y0 ∧ DataW.trod enc P w base spare held n f1.type ((cs.drop f1.offset).take (P.cellsOf f1.type)) = some y1 ∧ DataW.trod enc P w base spare held n f2.type ((cs.drop f2.offset).take (P.cellsOf f2.type)) = some y2 := by
 obtain ⟨xs,n,_,rfl,hl,hlen,hf⟩ := DataW.trod_struct ht h
 match xs,hlen with
 | [y0,y1,y2],_ => exact ⟨y0,y1,y2,n,by simp,hl,by simpa using hf 0 f0 rfl,by simpa using hf 1 f1 rfl,by simpa using hf 2 f2 rfl⟩
theorem open_list9 {H : Type} {enc : TypeId × Value → H} {W : World} {fuel : Nat} {v : Value} {y : DataW H × List MemPlace}
  (hf : DataW.trod enc Tryz.prog W 0 (fun _ => true) true fuel 22 [v] = some y) (hb : Rows.uptoBulk y.1 ≤ 1048576) :
  ∃ a l cap ps zs,v = .slice a l cap ∧ Prs 0 W (.slice a l cap) ps ∧ Zis W ps zs 1048576 ∧ zs.length = l ∧ l ≤ 1048576 := by
 have hn : ∀ c,v = .slice none 0 c → c = 0 := by
  rcases Deep.open_slice Tryz.underlying22 hf with ⟨hcs,_⟩ | ⟨x,len,cap,m,n,D,Pl,hcs,_⟩
  ·simp only [List.cons.injEq,and_true] at hcs
   intro c e;rw [hcs] at e
   simpa using e.symm
  ·simp only [List.cons.injEq,and_true] at hcs
   intro c e;rw [hcs] at e;simp at e
 obtain ⟨zs,ks,h1,h2⟩ := zBE hf hb;have hz := h1.zl (K := 1048576) (by omega);obtain ⟨ps,p1,p2⟩ := hz.prs hn;obtain ⟨a,c,e,-,hl,-⟩ := hz;subst e;exact ⟨a,zs.length,c,ps,zs,rfl,p1,p2,rfl,hl⟩
theorem open_mat9 {H : Type} {enc : TypeId × Value → H} {W : World} {r : Reach} {b0 : Nat} {v : Value} {d : DataW H} {p : List MemPlace}
  (hv : Value.okWide Tryz.prog W r b0 24 v) (h0 : DataW.Trod enc Tryz.prog W 0 (fun _ => true) true 24 v d p) (hb : Rows.uptoBulk d ≤ 1048576) :
  ∃ r c l zs,Raw W v r c l zs := by
 obtain ⟨cs,rfl,hsz⟩ := okWide_struct Tryz.underlying24 hv;obtain ⟨fuel,hf⟩ := h0;obtain ⟨y0,y1,y2,n,hx,hl,t0,t1,t2⟩ := trod_struct3m Tryz.underlying24 hf;obtain ⟨L,rfl⟩ : ∃ L : List Value,cs = L.toArray := ⟨cs.toList,by simp⟩
 simp only [Value.cells] at hl t0 t1 t2;rw [Tryz.cellsM9] at hl;have hx' : d = .agg [y0.1,y1.1,y2.1] := hx;subst hx';simp only [Rows.uptoBulk,Rows.uptoBulkAll] at hb
 match L,hl with
 | [e0,e1,e2],_ =>
  simp only [Tryz.cellsI9,Tryz.cellsL9,List.drop_zero,List.drop_succ_cons,List.take_succ_cons,List.take_zero] at t0 t1 t2;obtain ⟨k0,q0,_,_⟩ := DataW.trod_int Tryz.underlying3 t0;obtain ⟨k1,q1,_,_⟩ := DataW.trod_int Tryz.underlying3 t1;simp only [List.cons.injEq,and_true] at q0 q1;subst q0 q1;obtain ⟨a,l,cap,ps,zs,rfl,h1,h2,h3,h4⟩ := open_list9 t2 (by omega);exact ⟨_,_,l,zs,a,cap,ps,rfl,h1,h2,h3,h4⟩
end Go.Proofs.YtbcgggadelnaaaaGreat
