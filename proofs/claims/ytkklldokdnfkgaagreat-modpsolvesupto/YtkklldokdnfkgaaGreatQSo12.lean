import Derived.Test.YtkklldokdnfkgaaGreatQRs12ToTailA
import Derived.Test.YtkklldokdnfkgaaGreatQEach9ToPr12
import Derived.Test.YtkklldokdnfkgaaGreatQFil9ToCat9
set_option maxRecDepth 100000
set_option maxHeartbeats 6400000
set_option linter.unusedVariables false
set_option linter.unusedSimpArgs false
namespace Go.Proofs.YtkklldokdnfkgaaGreat
open Go.RowKit
def zLA (p r c : Nat) (zs : List Int) : List (List Int) := (zWH r c zs).map (resL p)
theorem zPA (p r c : Nat) (zs : List Int) : (zLA p r c zs).length = r := by simp [zLA,zWH]
theorem zbF {p r c i : Nat} {zs : List Int} (h : i < r) : (zLA p r c zs)[i]? = some (resL p ((zs.drop (i * c)).take c)) := by
 unfold zLA;rw [List.getElem?_map,rowsL_at h]
 rfl
theorem zYF {r c i : Nat} {zs : List Int} (hl : zs.length = r * c) (hi : i < r) : ((zs.drop (i * c)).take c).length = c := by
 have h5 : (i + 1) * c ≤ r * c := Nat.mul_le_mul_right c hi;have h6 : (i + 1) * c = i * c + c := by rw [Nat.add_mul,Nat.one_mul]
 simp
 omega
theorem zWA {p r c : Nat} {zs : List Int} (hl : zs.length = r * c) : WidE c (zLA p r c zs) := fun l h => by
 obtain ⟨i,hi,e⟩ := List.mem_iff_getElem.1 h;rw [zPA] at hi;have := zbF (p := p) (c := c) (zs := zs) hi;rw [List.getElem?_eq_getElem (by rw [zPA];exact hi),Option.some.injEq] at this;rw [← e,this,ztB,zYF hl hi]
theorem zhA {p r c : Nat} (hp : 0 < p) {zs : List Int} : ResM p (zLA p r c zs) := fun l h => by
 obtain ⟨q,_,rfl⟩ := List.mem_map.1 h;exact zfG hp _
theorem zis_piece {w : World} {ps : List (Value × Value)} {zs : List Int} {k a n : Nat} (h : Zis w ps zs k) : Zis w ((ps.drop a).take n) ((zs.drop a).take n) k := by
 refine ⟨by simp [h.1],fun j p z hp hz => ?_⟩;rw [List.getElem?_take] at hp hz
 by_cases q : j < n
 ·rw [if_pos q,List.getElem?_drop] at hp hz
  exact h.2 _ p z hp hz
 ·rw [if_neg q] at hp;cases hp
theorem zXI {f : Func} {s : Nat} (hr : f.results = #[ResultVar.cell s 54]) {W : World} {b : Nat} {x0 x1 x2 : Value} (h : Cel W b 54 [x0,x1,x2]) (tmps : Array Value) (ht : tmps[s]? = some (.pointer (some ⟨b,0,none⟩))) :
  (results f tmps).run Tryz.prog W = .ok (.agg #[x0,x1,x2]) W := by
 simp [results,hr,go_sem,ht,h.at (i := 0) rfl,h.at (i := 1) rfl,h.at (i := 2) rfl]
abbrev shz : Obj := .cells #[.int .u64 0,.int .i64 0,.slice none 0 0] 54
def SofH (w : World) (p r c : Nat) (at_ : Value) (ms : List (List Int)) (gk : Nat) (s : Value) (wx : World) : Prop :=
 ∃ (i : Nat) (gs : List Nat) (lv : Value),s = .int .i64 (i : Int) ∧ i ≤ r ∧ gk = r - i ∧ Lns (w.heap.size + 3) wx lv c gs (ms.take i) ∧ Cel wx w.heap.size 24 (matc r c at_) ∧ Cel wx (w.heap.size + 1) 54 [.int .u64 0,.int .i64 0,.slice none 0 0] ∧ Cel wx (w.heap.size + 2) 54 (shc p c lv) ∧ Below w.heap.size w wx
def zKF (w : World) (p c : Nat) (ms : List (List Int)) (e : Ending) (w' : World) : Prop := ∃ lv gs,e = .returned (shv p c lv) ∧ Lns w.heap.size w' lv c gs ms ∧ Below w.heap.size w w'
theorem Lns.mono {B B' c : Nat} {w : World} {lv : Value} {gs : List Nat} {m : List (List Int)} (h : Lns B w lv c gs m) (hB : B' ≤ B) : Lns B' w lv c gs m := by
 obtain ⟨h1,h2,h3,h4,h5,h6⟩ := h;refine ⟨?_,h2,h3,fun g hg => Nat.le_trans hB (h4 g hg),h5,h6⟩;obtain ⟨q1,q2 | ⟨g,cap,cur,q2,q3,q4⟩⟩ := h1
 ·exact ⟨q1,.inl q2⟩
 ·exact ⟨q1,.inr ⟨g,cap,cur,q2,by omega,q4⟩⟩
theorem Lns.box {B c b i : Nat} {w : World} {lv : Value} {gs : List Nat} {m : List (List Int)} {T : TypeId} {L : List Value} {u : Value} (h : Lns B w lv c gs m) (hb : Cel w b T L) (hT : T ≠ 25) (hT2 : T ≠ 42) : Lns B (w.setCell ⟨b,i,none⟩ u) lv c gs m := by
 refine h.keep fun g hlt hg => Below.heap_setCell w _ u g fun e => ?_
 have e' : g = b := e;subst e';obtain ⟨h1,h2,h3,h4,h5,h6⟩ := h;rcases hg with q | q
 ·obtain ⟨q1,⟨q2,q3⟩ | ⟨g',cap,cur,q2,q3,q4,q5⟩⟩ := h1
  ·rw [q2] at q;cases q
  ·rw [q2] at q
   simp only [Value.ownBlock,Option.some.injEq] at q;subst q;have := q4.symm.trans (show w.heap[_]? = _ from hb);simp only [Option.some.injEq,Obj.cells.injEq] at this;exact hT2 this.2.1.symm
 ·obtain ⟨j,hj,e⟩ := List.mem_iff_getElem.1 q
  have hr := h6 j g (by rw [← e];exact List.getElem?_eq_getElem hj);have := (show w.heap[_]? = _ from hr).symm.trans (show w.heap[_]? = _ from hb);simp only [Option.some.injEq,Obj.cells.injEq] at this;exact hT this.2.1.symm
theorem zxC {w : World} {v : Value} {p r c : Nat} {zs : List Int} {K : Nat} (hp : 2 ≤ p) (hp2 : p < 2147483648) (h : Mx w v r c zs K) (hK : K ≤ 1099511627775) :
  Calls Tryz.prog 33 #[v,.int .u64 (p : Int)] w (zKF w p c (zLA p r c zs)) := by
 obtain ⟨at_,ps,rfl,hA,hz,hl,hr,hc⟩ := h;have hpl : ps.length = r * c := by rw [hz.1,hl]
 obtain ⟨aa,ca,rfl,hca,hna,-,-⟩ := hA.form;rw [hpl] at hA ⊢;obtain ⟨n,hn⟩ : ∃ n,r * c = n := ⟨_,rfl⟩
 rw [hn] at hA ⊢;obtain ⟨W0,hW⟩ : ∃ W0,((w.alloc (.cells #[.int .i64 (r : Int),.int .i64 (c : Int),.slice aa n ca] 24)).alloc shz).alloc (shO p c (.slice none 0 0)) = W0 := ⟨_,rfl⟩
 have b0 : Below w.heap.size w W0 := by rw [← hW];exact ((((Below.refl _ _).alloc (Nat.le_refl _) _).alloc (by simp) _).alloc (by simp;omega) _)
 have sz0 : W0.heap.size = w.heap.size + 3 := by rw [← hW];simp
 have PM : Hid (Cel W0 w.heap.size 24 (matc r c (.slice aa n ca))) := by
  unfold Hid;rw [← hW];exact ((Cel.new w _ _).step (zVA _ _).1).step (zVA _ _).1
 have PZ : Hid (Cel W0 (w.heap.size + 1) 54 [.int .u64 0,.int .i64 0,.slice none 0 0]) := by
  unfold Hid;rw [← hW];have := (Cel.new (w.alloc (.cells #[.int .i64 (r : Int),.int .i64 (c : Int),.slice aa n ca] 24)) 54 [.int .u64 0,.int .i64 0,.slice none 0 0]).step (zVA _ (shO p c (.slice none 0 0))).1
  simpa using this
 have PS : Hid (Cel W0 (w.heap.size + 2) 54 (shc p c (.slice none 0 0))) := by
  unfold Hid;rw [← hW];have := Cel.new ((w.alloc (.cells #[.int .i64 (r : Int),.int .i64 (c : Int),.slice aa n ca] 24)).alloc shz) 54 (shc p c (.slice none 0 0))
  simpa using this
 obtain ⟨ms,hms⟩ : ∃ ms,zLA p r c zs = ms := ⟨_,rfl⟩
 have HMS : Hid (∀ i,i < r → ms[i]? = some (resL p ((zs.drop (i * c)).take c))) := fun i hi => by rw [← hms];exact zbF hi
 have HML : Hid (ms.length = r) := by unfold Hid;rw [← hms];exact zPA _ _ _ _
 rw [hms];have H0 : Hid (SofH w p r c (.slice aa n ca) ms r (.int .i64 0) W0) := ⟨0,[],_,rfl,Nat.zero_le _,rfl,by rw [List.take_zero];exact Lns.nil _ _ _,PM.out,PZ.out,PS.out,b0⟩
 have AA := hid hA;have AZ := hid hz;have HL := hid hl;have HN := hid hn;have HPL := hid hpl;have x0 := PM.out.at (i := 0) rfl;have x1 := PM.out.at (i := 1) rfl;have y1 := (Cel.new w 24 (matc r c (.slice aa n ca))).step (zVA _ shz).1;have y2 := y1.at (i := 1) rfl;rw [← hW] at x0 x1;have EW := hid hW;have HKK := hid hK;clear b0 sz0 hW hA hz hl hn hpl hms PM PZ PS hca hna hK y1;go_enter Tryz.func33,Tryz.ntmps33;go_wp2_with fail;rw [EW.out];clear x0 x1 EW y2
 go_loopg [13] r (fun gk s13 wx => SofH w p r c (.slice aa n ca) ms gk s13 wx)
 case atStart => exact H0.out
 case round =>
  clear H0;obtain ⟨i,gs,lv,rfl,hin,hgk,hln,hm,hz0,hs0,hG⟩ := hrel;have LN := hid hln;have PM := hid hm;have PZ := hid hz0;have PS := hid hs0;have G := hid hG;have HG := hid hgk;have hti : (ms.take i).length = i := by rw [List.length_take,HML.out];omega
  obtain ⟨la,lcap,rfl,-,-⟩ := hln.form;rw [hti] at LN PS;have HTI := hid hti;clear hln hm hz0 hs0 hG hgk hti
  by_cases hlt : i < r
  ·have hlt' : (i : Int) < (r : Int) := by omega
   obtain ⟨a2,cap2,hs,hpc⟩ := cut_row (i := i) (c := c) (by rw [← HN.out] at AA;exact AA.out) HPL.out hlt;rw [HN.out] at hs;have ZL := hid (zGH hpc (zis_piece (a := i * c) (n := c) AZ.out));have PL := hid (zYF HL.out hlt);have HMI := hid (HMS.out i hlt);have hw := znD hlt (by omega);have hm0 := zGC (i := i) (c := c) (by omega) hc;have hm1 := zGC (i := i + 1) (c := c) (by omega) hc;rw [show ((i + 1 : Nat) : Int) = (i : Int) + 1 by omega] at hm1;obtain ⟨row,hrow⟩ : ∃ row,(zs.drop (i * c)).take c = row := ⟨_,rfl⟩
   rw [hrow] at ZL PL HMI;clear hpc hrow;generalize i * c = lo at *;generalize (i + 1) * c = hi at *;have hm2 := hm0;have hm3 := hm1;rw [IntKind.wrap_i64] at hm2 hm3;have k1 := PM.out.at (i := 1) rfl;have k2 := PM.out.at (i := 2) rfl;have s0 := PS.out.at (i := 0) rfl;have s1 := PS.out.at (i := 1) rfl;have s2 := PS.out.at (i := 2) rfl;have HMM : Hid (r - (i + 1) < gk) := by unfold Hid;rw [HG.out];omega
   have HB1 : Hid (w.heap.size + 3 ≤ wr.heap.size) := by unfold Hid;have := PS.out.blk;omega
   clear HG;go_wp2_with fail;have KB : Hid (∀ w',Below wr.heap.size wr w' → w'.cell? ⟨w.heap.size,1,none⟩ = some (.int .i64 (c : Int)) ∧ w'.cell? ⟨w.heap.size,2,none⟩ = some (.slice aa n ca) ∧ w'.cell? ⟨w.heap.size + 2,0,none⟩ = some (.int .u64 (p : Int)) ∧ w'.cell? ⟨w.heap.size + 2,1,none⟩ = some (.int .i64 (c : Int)) ∧ w'.cell? ⟨w.heap.size + 2,2,none⟩ = some (.slice la i lcap)) := fun w' h => ⟨cnow h k1,cnow h k2,cnow h s0,cnow h s1,cnow h s2⟩
   refine zDA (fun w' => w'.cell? ⟨w.heap.size,1,none⟩ = some (.int .i64 (c : Int)) ∧ w'.cell? ⟨w.heap.size,2,none⟩ = some (.slice aa n ca) ∧ w'.cell? ⟨w.heap.size + 2,0,none⟩ = some (.int .u64 (p : Int)) ∧ w'.cell? ⟨w.heap.size + 2,1,none⟩ = some (.int .i64 (c : Int)) ∧ w'.cell? ⟨w.heap.size + 2,2,none⟩ = some (.slice la i lcap)) 17 (by kernel_rfl) ?_;obtain ⟨D1,hD⟩ : ∃ D1,wr.drew = D1 := ⟨_,rfl⟩
   have GB : Hid (Below wr.heap.size wr D1) := by unfold Hid;rw [← hD];exact (Below.refl _ _).drew
   rw [hD];clear hD;have ld0 := GB.out.size;refine zAA (i := 0) (oi := ⟨some 16,.fieldAddr 54 (.tmp 5) 2,0, "sheet.go:21",#[],none⟩) (v := (.pointer (some ⟨(w.heap.size + 2),2,none⟩))) rfl (by kernel_rfl) (fun _ _ _ h => h) (Or.inl ⟨by rfl,?_⟩) (KB.out _ GB.out) ?_
   ·intro w hSw;(try dsimp only at hSw);go_simp
   simp only [Act.put,sIb,sC0,sC1];refine zAA (i := 1) (oi := ⟨some 17,.load 52 (.tmp 16),52, "sheet.go:21",#[⟨0,.data⟩],none⟩) (v := (.slice la i lcap)) rfl (by kernel_rfl) (fun _ _ _ h => h) (Or.inl ⟨by rfl,?_⟩) (KB.out _ GB.out) ?_
   ·intro w hSw;(try dsimp only at hSw);go_simp
   simp only [Act.put,sIb,sC0,sC1];refine zAA (i := 2) (oi := ⟨some 18,.load 54 (.tmp 5),54, "sheet.go:21",#[],none⟩) (v := (.agg #[.int .u64 (p : Int),.int .i64 (c : Int),(.slice la i lcap)])) rfl (by kernel_rfl) (fun _ _ _ h => h) (Or.inl ⟨by rfl,?_⟩) (KB.out _ GB.out) ?_
   ·intro w hSw;(try dsimp only at hSw);go_simp
   simp only [Act.put,sIb,sC0,sC1];refine zAA (i := 3) (oi := ⟨some 19,.fieldAddr 24 (.tmp 2) 2,0, "sheet.go:21",#[],none⟩) (v := (.pointer (some ⟨w.heap.size,2,none⟩))) rfl (by kernel_rfl) (fun _ _ _ h => h) (Or.inl ⟨by rfl,?_⟩) (KB.out _ GB.out) ?_
   ·intro w hSw;(try dsimp only at hSw);go_simp
   simp only [Act.put,sIb,sC0,sC1];refine zAA (i := 4) (oi := ⟨some 20,.load 22 (.tmp 19),22, "sheet.go:21",#[⟨3,.data⟩],none⟩) (v := (.slice aa n ca)) rfl (by kernel_rfl) (fun _ _ _ h => h) (Or.inl ⟨by rfl,?_⟩) (KB.out _ GB.out) ?_
   ·intro w hSw;(try dsimp only at hSw);go_simp
   simp only [Act.put,sIb,sC0,sC1];refine zAA (i := 5) (oi := ⟨some 21,.move (.tmp 6),3, "sheet.go:21",#[],none⟩) (v := (.int .i64 (i : Int))) rfl (by kernel_rfl) (fun _ _ _ h => h) (Or.inl ⟨by rfl,?_⟩) (KB.out _ GB.out) ?_
   ·intro w hSw;(try dsimp only at hSw);go_simp
   simp only [Act.put,sIb,sC0,sC1];refine zAA (i := 6) (oi := ⟨some 22,.fieldAddr 24 (.tmp 2) 1,0, "sheet.go:21",#[],none⟩) (v := (.pointer (some ⟨w.heap.size,1,none⟩))) rfl (by kernel_rfl) (fun _ _ _ h => h) (Or.inl ⟨by rfl,?_⟩) (KB.out _ GB.out) ?_
   ·intro w hSw;(try dsimp only at hSw);go_simp
   simp only [Act.put,sIb,sC0,sC1];refine zAA (i := 7) (oi := ⟨some 23,.load 3 (.tmp 22),3, "sheet.go:21",#[⟨6,.data⟩],none⟩) (v := (.int .i64 (c : Int))) rfl (by kernel_rfl) (fun _ _ _ h => h) (Or.inl ⟨by rfl,?_⟩) (KB.out _ GB.out) ?_
   ·intro w hSw;(try dsimp only at hSw);go_simp
   simp only [Act.put,sIb,sC0,sC1];refine zAA (i := 8) (oi := ⟨some 24,.binOp .mul 3 (.tmp 21) (.tmp 23) 3,3, "sheet.go:21",#[⟨5,.data⟩,⟨7,.data⟩],none⟩) (v := (.int .i64 (lo : Int))) rfl (by kernel_rfl) (fun _ _ _ h => h) (Or.inl ⟨by rfl,?_⟩) (KB.out _ GB.out) ?_
   ·intro w hSw;(try dsimp only at hSw);go_simp
   simp only [Act.put,sIb,sC0,sC1];refine zAA (i := 9) (oi := ⟨some 25,.move (.tmp 6),3, "sheet.go:21",#[],none⟩) (v := (.int .i64 (i : Int))) rfl (by kernel_rfl) (fun _ _ _ h => h) (Or.inl ⟨by rfl,?_⟩) (KB.out _ GB.out) ?_
   ·intro w hSw;(try dsimp only at hSw);go_simp
   simp only [Act.put,sIb,sC0,sC1];refine zAA (i := 10) (oi := ⟨some 26,.binOp .add 3 (.tmp 25) (.const (.int .i64 1)) 3,3, "sheet.go:21",#[⟨9,.data⟩],none⟩) (v := (.int .i64 ((i : Int) + 1))) rfl (by kernel_rfl) (fun _ _ _ h => h) (Or.inl ⟨by rfl,?_⟩) (KB.out _ GB.out) ?_
   ·intro w hSw;(try dsimp only at hSw);go_simp
   simp only [Act.put,sIb,sC0,sC1];refine zAA (i := 11) (oi := ⟨some 27,.fieldAddr 24 (.tmp 2) 1,0, "sheet.go:21",#[],none⟩) (v := (.pointer (some ⟨w.heap.size,1,none⟩))) rfl (by kernel_rfl) (fun _ _ _ h => h) (Or.inl ⟨by rfl,?_⟩) (KB.out _ GB.out) ?_
   ·intro w hSw;(try dsimp only at hSw);go_simp
   simp only [Act.put,sIb,sC0,sC1];refine zAA (i := 12) (oi := ⟨some 28,.load 3 (.tmp 27),3, "sheet.go:21",#[⟨11,.data⟩],none⟩) (v := (.int .i64 (c : Int))) rfl (by kernel_rfl) (fun _ _ _ h => h) (Or.inl ⟨by rfl,?_⟩) (KB.out _ GB.out) ?_
   ·intro w hSw;(try dsimp only at hSw);go_simp
   simp only [Act.put,sIb,sC0,sC1];refine zAA (i := 13) (oi := ⟨some 29,.binOp .mul 3 (.tmp 26) (.tmp 28) 3,3, "sheet.go:21",#[⟨10,.data⟩,⟨12,.data⟩],none⟩) (v := (.int .i64 (hi : Int))) rfl (by kernel_rfl) (fun _ _ _ h => h) (Or.inl ⟨by rfl,?_⟩) (KB.out _ GB.out) ?_
   ·intro w hSw;(try dsimp only at hSw);go_simp
   simp only [Act.put,sIb,sC0,sC1];refine zAA (i := 14) (oi := ⟨some 30,.slice 22 (.tmp 20) (some (.tmp 24)) (some (.tmp 29)) none,22, "sheet.go:21",#[⟨4,.data⟩,⟨8,.data⟩,⟨13,.data⟩],none⟩) (v := (.slice a2 c cap2)) rfl (by kernel_rfl) (fun _ _ _ h => h) (Or.inl ⟨by rfl,?_⟩) (KB.out _ GB.out) ?_
   ·intro w hSw;(try dsimp only at hSw);go_simp
   simp only [Act.put,sIb,sC0,sC1];refine zCA (i := 15) (o := ⟨some 31,.call { callee := .value (.func 26),args := #[.tmp 18,.tmp 30],argTypes := #[54,22] },42, "sheet.go:21",#[⟨2,.data⟩,⟨14,.data⟩],none⟩) (by kernel_rfl) rfl (fun K hK => ?_);go_simp;go_at_call 26;refine (zdE hp hp2 ((ZL.out.now G.out).now GB.out) HKK.out PL.out).mono ?_;rintro e w2 ⟨gn,rfl,hgn,hrw,b⟩;have lz2 := (show Below _ _ _ from b).size;replace GB := hid (below_step GB.out b);have RN := hid hrw;have GN := hid hgn;have LD := hid (Nat.le_trans ld0 hgn);clear hrw hgn;clear b;refine hK.out _ _ (fun _ => KB.out _ GB.out) ?_;clear hK;refine zCA (i := 16) (o := ⟨some 32,.buildSlice 52 1 #[(0,.tmp 31)],52, "sheet.go:21",#[⟨15,.data⟩],none⟩) (by kernel_rfl) rfl (fun K hK => ?_);go_simp;obtain ⟨V3,hW⟩ : ∃ V3,w2.alloc (.cells #[.slice (some ⟨gn,0,none⟩) c c] 42) = V3 := ⟨_,rfl⟩
   obtain ⟨b,sz3⟩ := zVA w2 (.cells #[.slice (some ⟨gn,0,none⟩) c c] 42);rw [hW] at b sz3;replace GB := hid (below_step GB.out b);have CB : Hid (Cel V3 w2.heap.size 42 [rowv c gn]) := by unfold Hid;rw [← hW];exact Cel.new _ _ _
   replace RN := hid (RN.out.stay b);rw [hW];clear hW b;refine hK.out _ _ (fun _ => KB.out _ GB.out) ?_;clear hK
   try simp only [Act.put]
   refine zCA (i := 17) (o := ⟨some 33,.call { callee := .builtin .append,args := #[.tmp 17,.tmp 32],argTypes := #[52,52] },52, "sheet.go:21",#[⟨1,.data⟩,⟨16,.data⟩,⟨15,.chain⟩],none⟩) (by kernel_rfl) rfl (fun K hK => ?_);have LN2 := hid (LN.out.now GB.out);have q0 := CB.out.at (i := 0) rfl;have HLR : Hid ((resL p row).length = c) := by unfold Hid;rw [ztB];exact PL.out
   have HGS : Hid (∀ b ∈ gs,b < gn) := fun b hb => by
    obtain ⟨j,hj,e⟩ := List.mem_iff_getElem.1 hb;have := (LN.out.2.2.2.2.2 j b (by rw [← e];exact List.getElem?_eq_getElem hj)).lt;have := LD.out;omega
   refine step_append_lns _ rfl (.tmp 17) (.tmp 32) rfl (w.heap.size + 3) c _ gs (ms.take i) gn (resL p row) rfl LN2.out w2.heap.size rfl q0 RN.out HLR.out HGS.out (by have := LD.out;have := HB1.out;omega) (by rw [HTI.out];omega) (by have := GB.out.size;have := HB1.out;omega) ?_;intro a9 cap9 w9 LN9 KC9 BB9;have e9 : ms.take i ++ [resL p row] = ms.take (i + 1) := by
    have h1 := HMI.out;rw [List.getElem?_eq_some_iff] at h1;obtain ⟨h1,h2⟩ := h1;rw [List.take_succ_eq_append_getElem h1,h2]
   rw [HTI.out,e9] at LN9;rw [HTI.out];have PM9 := hid (KC9.out _ _ _ (PM.out.step GB.out) (by decide));have PZ9 := hid (KC9.out _ _ _ (PZ.out.step GB.out) (by decide));have PS9 := hid (KC9.out _ _ _ (PS.out.step GB.out) (by decide));have G9 : Hid (Below w.heap.size w w9) := by
    unfold Hid;exact (below_step G.out GB.out).trans (BB9.out.mono (by omega))
   have r2 := PS9.out.at (i := 2) rfl;have f2 := PS9.out.fz 2;have HN1 : Hid (SofH w p r c (.slice aa n ca) ms (r - (i + 1)) (.int .i64 ((i + 1 : Nat) : Int)) (w9.setCell ⟨w.heap.size + 2,2,none⟩ (.slice (some ⟨a9,0,none⟩) (i + 1) cap9))) :=
    ⟨i + 1,_,_,rfl,by omega,rfl,LN9.out.box PS9.out (by decide) (by decide),PM9.out.ne (by omega),PZ9.out.ne (by omega),PS9.out.set 2 _,bset G9.out (by omega)⟩
   clear LN LN2 LN9 PM PM9 PZ PZ9 PS PS9 KC9 BB9 G G9 GB KB CB RN GN LD HGS HLR ZL PL HMI HTI e9 k1 k2 s0 s1 s2 q0 hs HB1;refine hK.out _ _ (fun h => absurd h (by decide)) ?_;clear hK
   try simp only [Act.put]
   refine zCA (i := 18) (o := ⟨some 34,.fieldAddr 54 (.tmp 5) 2,0, "sheet.go:21",#[⟨0,.phase⟩,⟨1,.phase⟩,⟨2,.phase⟩,⟨3,.phase⟩,⟨4,.phase⟩,⟨5,.phase⟩,⟨6,.phase⟩,⟨7,.phase⟩,⟨8,.phase⟩,⟨9,.phase⟩,⟨10,.phase⟩,⟨11,.phase⟩,⟨12,.phase⟩,⟨13,.phase⟩,⟨14,.phase⟩,⟨15,.phase⟩,⟨16,.phase⟩,⟨17,.phase⟩],none⟩) (by kernel_rfl) rfl (fun K hK => ?_);go_simp;refine hK.out _ _ (fun h => absurd h (by decide)) ?_;clear hK
   try simp only [Act.put]
   refine zCA (i := 19) (o := ⟨none,.store 52 (.tmp 34) (.tmp 33),0, "sheet.go:21",#[⟨18,.data⟩,⟨17,.data⟩,⟨17,.chain⟩,⟨0,.phase⟩,⟨1,.phase⟩,⟨2,.phase⟩,⟨3,.phase⟩,⟨4,.phase⟩,⟨5,.phase⟩,⟨6,.phase⟩,⟨7,.phase⟩,⟨8,.phase⟩,⟨9,.phase⟩,⟨10,.phase⟩,⟨11,.phase⟩,⟨12,.phase⟩,⟨13,.phase⟩,⟨14,.phase⟩,⟨15,.phase⟩,⟨16,.phase⟩,⟨17,.phase⟩],none⟩) (by kernel_rfl) rfl (fun K hK => ?_);go_simp;refine hK.out _ _ (fun h => absurd h (by decide)) ?_;clear hK
   try simp only [Act.put]
   refine zFA (by kernel_rfl) ?_ _;go_wp2_with fail;go_roundg (r - (i + 1))
   case rel => exact HN1.out
   case measure => exact HMM.out
  ·have hlt' : ¬ (i : Int) < (r : Int) := by omega
   obtain rfl : i = r := by omega
   have x0 := PS.out.at (i := 0) rfl;have x1 := PS.out.at (i := 1) rfl;have x2 := PS.out.at (i := 2) rfl;have y0 := PZ.out.at (i := 0) rfl;have y1 := PZ.out.at (i := 1) rfl;have y2 := PZ.out.at (i := 2) rfl;have g0 := PZ.out.fz 0;have g1 := PZ.out.fz 1;have g2 := PZ.out.fz 2;have hts : ms.take i = ms := by rw [← HML.out];exact List.take_length
   rw [hts] at LN;have FIN : Hid (zKF w p c ms (.returned (shv p c (.slice la i lcap))) (put3 wr (w.heap.size + 1) (.int .u64 (p : Int)) (.int .i64 (c : Int)) (.slice la i lcap))) :=
    ⟨_,gs,rfl,((((LN.out.box PZ.out (by decide) (by decide)).box (PZ.out.set 0 _) (by decide) (by decide)).box ((PZ.out.set 0 _).set 1 _) (by decide) (by decide))).mono (by omega),zgA G.out (by omega) _ _ _⟩
   have PF := hid (PZ.out.put3 (.int .u64 (p : Int)) (.int .i64 (c : Int)) (.slice la i lcap));clear LN PM PZ PS G HG hts;go_wp2;exact bodyPost_ret (zXI Tryz.results33 PF.out _ (by rfl)) rfl FIN.out
end Go.Proofs.YtkklldokdnfkgaaGreat
