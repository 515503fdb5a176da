/-
 QBu12ToIx12: Bu12, Ix12, joined.
-/
import Derived.Test.YtkklldokdnfkgaaGreatQSo12
import Derived.Deep.Cut

set_option maxRecDepth 100000
set_option maxHeartbeats 6400000
set_option linter.unusedVariables false
set_option linter.unusedSimpArgs false
namespace Go.Proofs.YtkklldokdnfkgaaGreat
open Go.RowKit
def uniR (r i : Nat) : List Int := (List.range r).map fun j => if i = j then 1 else 0
def zDB (r : Nat) (ms : List (List Int)) : List (List Int) := (List.range r).map fun i => rowE ms i ++ uniR r i
theorem zUG (r i : Nat) : (uniR r i).length = r := by simp [uniR]
theorem zCB (r : Nat) (ms : List (List Int)) : (zDB r ms).length = r := by simp [zDB]
theorem zeD {r i : Nat} {ms : List (List Int)} (h : i < r) : (zDB r ms)[i]? = some (rowE ms i ++ uniR r i) := by simp [zDB,h]
theorem uni_set {r i c : Nat} {row : List Int} (hc : row.length = c) (hi : i < r) : (row ++ List.replicate r 0).set (c + i) 1 = row ++ uniR r i := by
 subst hc
 apply List.ext_getElem
 ·simp [uniR]
 ·intro j h1 h2
  rw [List.getElem_set]
  by_cases q : j < row.length
  ·rw [if_neg (by omega),List.getElem_append_left q,List.getElem_append_left q]
  ·rw [List.getElem_append_right (by omega),List.getElem_append_right (by omega)]
   simp [uniR]
   by_cases e : row.length + i = j
   ·rw [if_pos e,if_pos (by omega)]
   ·rw [if_neg e,if_neg (by omega)]
theorem wpList_copy_wide (w : World) {ops : Array Oper} {rest : List Oper} {o : Oper} {a : Act} {Q : Exit → Act → World → Prop}
  (hgd : o.guard = none) (d s : Operand) (hop : o.op = .call { callee := .builtin .copy,args := #[d,s],argTypes := #[42,42] })
  (g N n capD capS b : Nat) (src : List Int) (hrow : Row w g (ws (List.replicate N 0))) (hd : a.eval d = .slice (some ⟨g,0,none⟩) N capD) (hs : a.eval s = .slice (some ⟨b,0,none⟩) n capS)
  (hlen : src.length = n) (hnN : n ≤ N) (hsrc : Row w b (ws src))
  (hK : ∀ w',Row w' g (ws (src ++ List.replicate (N - n) 0)) → Below g w w' → wpList Tryz.prog ops Q rest (a.put o.dst (goInt n)) w') :
  wpList Tryz.prog ops Q (o :: rest) a w := by
 refine wpList_copy_splice hgd d s 42 42 hop 25 Tryz.underlying42 Tryz.sizeW _ _ N capD n capS hd hs g 0 (ws (List.replicate N 0)) 25 hrow (ws src) (by rw [zIA,hlen];exact (Nat.min_eq_left hnN).symm) ?_ (by simp [zIA];omega) ?_ g w (Below.refl _ _) (Nat.le_refl _) ?_
 ·intro hpos
  refine ⟨rfl,_,rfl,fun j v hj => ?_⟩;rw [zMB];exact (show Cel w b 25 (ws src) from hsrc).at hj
 ·intro v hv
  simp only [ws,List.mem_map] at hv;obtain ⟨x,-,rfl⟩ := hv
  rfl
 ·intro w' h1 h2
  rw [zIA,hlen];refine hK w' ?_ h2;have := h1.out;rw [zTD N n src hlen] at this;exact this
def BuH (w : World) (p c r N : Nat) (lv : Value) (ms : List (List Int)) (gk : Nat) (s : Value) (wx : World) : Prop :=
 ∃ (i : Nat) (gs : List Nat) (jv : Value),s = .int .i64 (i : Int) ∧ i ≤ r ∧ gk = r - i ∧ Lns (w.heap.size + 3) wx jv N gs (ms.take i) ∧ Cel wx w.heap.size 54 (shc p c lv) ∧ Cel wx (w.heap.size + 1) 54 [.int .u64 0,.int .i64 0,.slice none 0 0] ∧ Cel wx (w.heap.size + 2) 54 (shc p N jv) ∧ Below w.heap.size w wx
theorem zbD {w : World} {lv : Value} {B p r c : Nat} {gs0 : List Nat} {m0 : List (List Int)} (hL : Lns B w lv c gs0 m0) (hm : m0.length = r) (hr : r ≤ 64) (hc : c ≤ 64) :
  Calls Tryz.prog 40 #[shv p c lv] w (zKF w p (c + r) (zDB r m0)) := by
 obtain ⟨a0,cap0,rfl,hcap,hform⟩ := hL.form;rw [hm] at hL hcap hform ⊢;obtain ⟨N,hN⟩ : ∃ N,c + r = N := ⟨_,rfl⟩
 have hcr : IntKind.i64.wrap ((c : Int) + (r : Int)) = ((N : Nat) : Int) := by rw [zRA] <;> omega
 have hcr2 := hcr;rw [IntKind.wrap_i64] at hcr2;have HNN := hid hN;rw [hN];obtain ⟨W0,hW⟩ : ∃ W0,((w.alloc (shO p c (.slice a0 r cap0))).alloc shz).alloc (shO p N (.slice none 0 0)) = W0 := ⟨_,rfl⟩
 have b0 : Below w.heap.size w W0 := by rw [← hW];exact ((((Below.refl _ _).alloc (Nat.le_refl _) _).alloc (by simp) _).alloc (by simp;omega) _)
 have PM : Hid (Cel W0 w.heap.size 54 (shc p c (.slice a0 r cap0))) := by
  unfold Hid;rw [← hW];exact ((Cel.new w _ _).step (zVA _ _).1).step (zVA _ _).1
 have PZ : Hid (Cel W0 (w.heap.size + 1) 54 [.int .u64 0,.int .i64 0,.slice none 0 0]) := by
  unfold Hid;rw [← hW];have := (Cel.new (w.alloc (shO p c (.slice a0 r cap0))) 54 [.int .u64 0,.int .i64 0,.slice none 0 0]).step (zVA _ (shO p N (.slice none 0 0))).1
  simpa using this
 have PS : Hid (Cel W0 (w.heap.size + 2) 54 (shc p N (.slice none 0 0))) := by
  unfold Hid;rw [← hW];have := Cel.new ((w.alloc (shO p c (.slice a0 r cap0))).alloc shz) 54 (shc p N (.slice none 0 0))
  simpa using this
 obtain ⟨ms,hms⟩ : ∃ ms,zDB r m0 = ms := ⟨_,rfl⟩
 have HMS : Hid (∀ i,i < r → ms[i]? = some (rowE m0 i ++ uniR r i)) := fun i hi => by rw [← hms];exact zeD hi
 have HML : Hid (ms.length = r) := by unfold Hid;rw [← hms];exact zCB _ _
 rw [hms];have H0 : Hid (BuH w p c r N (.slice a0 r cap0) ms r (.int .i64 0) W0) := ⟨0,[],_,rfl,Nat.zero_le _,rfl,by rw [List.take_zero];exact Lns.nil _ _ _,PM.out,PZ.out,PS.out,b0⟩
 have LS := hid hL;have HM0 := hid hm;have HF := hid hform;have y1 := (Cel.new w 54 (shc p c (.slice a0 r cap0))).step (zVA _ shz).1;have x0 := y1.at (i := 0) rfl;have x1 := y1.at (i := 1) rfl;have x2 := y1.at (i := 2) rfl;have z2 := PM.out.at (i := 2) rfl;rw [← hW] at z2;have EW := hid hW;clear b0 hW hL hm hform hms PM PZ PS y1 hN;go_enter Tryz.func40,Tryz.ntmps40;go_wp2_with fail;rw [EW.out];clear EW x0 x1 x2 z2
 go_loopg [19] r (fun gk s19 wx => BuH w p c r N (.slice a0 r cap0) ms gk s19 wx)
 case atStart => exact H0.out
 case round =>
  clear H0;obtain ⟨i,gs,jv,rfl,hin,hgk,hln,hmm,hz0,hs0,hG⟩ := hrel;have LN := hid hln;have PM := hid hmm;have PZ := hid hz0;have PS := hid hs0;have G := hid hG;have HG := hid hgk;have hti : (ms.take i).length = i := by rw [List.length_take,HML.out];omega
  obtain ⟨la,lcap,rfl,-,-⟩ := hln.form;rw [hti] at LN PS;have HTI := hid hti;clear hln hmm hz0 hs0 hG hgk hti
  by_cases hlt : i < r
  ·have hlt' : (i : Int) < (r : Int) := by omega
   obtain ⟨L,rfl,-,-⟩ := HF.out (by omega);obtain ⟨gi,q1,q2,q3,q4⟩ := LS.out.blk (i := i) (by rw [HM0.out];exact hlt);have LSW := hid (LS.out.now G.out);have k0 := (LSW.out.line q1).1;have RS : Hid (Row wr gi (ws (rowE m0 i))) := by
    obtain ⟨gi',e1,e2,e3,e4⟩ := LSW.out.blk (i := i) (by rw [HM0.out];exact hlt);rw [q1,Option.some.injEq] at e1;subst e1;exact e3
   have HR4 := hid q4;have hw := zkA (i := i) (by omega);have hci : IntKind.i64.wrap ((c : Int) + (i : Int)) = ((c + i : Nat) : Int) := by rw [zRA] <;> omega
   have hci2 := hci;rw [IntKind.wrap_i64] at hci2;have hcn : ((c + i : Nat) : Int) < (N : Int) := by have := HNN.out;omega
   have k1 := PM.out.at (i := 1) rfl;have s1 := PS.out.at (i := 1) rfl;have HMM : Hid (r - (i + 1) < gk) := by unfold Hid;rw [HG.out];omega
   have HB1 : Hid (w.heap.size + 3 ≤ wr.heap.size) := by unfold Hid;have := PS.out.blk;omega
   have HMI := hid (HMS.out i hlt);clear HG q1 q2 q3 q4 LSW;go_wp2_with (at_make;refine wpList_make_words _ rfl _ _ rfl _ _ N N rfl rfl rfl rfl (Nat.le_refl _) (by have := HNN.out;omega) ?_)
   intro w1 hrow hb1 hsz1;have RS1 := hid (RS.out.stay hb1);have R1 := hid hrow;have B1 := hid hb1;clear hrow hb1 hsz1 s1 k0 RS;go_wp2_with (refine wpList_copy_wide _ rfl (.tmp 27) (.tmp 28) rfl wr.heap.size N c N c gi (rowE m0 i) R1.out rfl rfl HR4.out (by have := HNN.out;omega) RS1.out ?_)
   intro w2 hrow2 hb2;have B2 := hid (B1.out.trans hb2);have E2 : Hid (Row w2 wr.heap.size (ws (rowE m0 i ++ List.replicate r 0))) := by
    unfold Hid;rw [show N - c = r by have := HNN.out;omega] at hrow2;exact hrow2
   have k1' := cnow B2.out k1;obtain ⟨gn,hgn⟩ : ∃ gn,wr.heap.size = gn := ⟨_,rfl⟩
   rw [hgn] at E2;have HGN := hid hgn;have hcl : c + i < (ws (rowE m0 i ++ List.replicate r 0)).length := by rw [zIA,List.length_append,HR4.out,List.length_replicate];omega
   obtain ⟨v0,hv0⟩ : ∃ v0,(ws (rowE m0 i ++ List.replicate r 0))[c + i]? = some (.int .u64 v0) := ⟨(rowE m0 i ++ List.replicate r 0)[c + i]'(by rw [zIA] at hcl;exact hcl),by unfold ws;rw [List.getElem?_map,List.getElem?_eq_getElem (by rw [zIA] at hcl;exact hcl)];rfl⟩
   have u0 := (show Cel w2 gn 25 _ from E2.out).at hv0;have u1 := (show Cel w2 gn 25 _ from E2.out).fz (c + i);obtain ⟨w3,hw3⟩ : ∃ w3,w2.setCell ⟨gn,c + i,none⟩ (.int .u64 1) = w3 := ⟨_,rfl⟩
   have R3 : Hid (Row w3 gn (ws (rowE m0 i ++ uniR r i))) := by
    unfold Hid;rw [← hw3,← uni_set HR4.out hlt];have := (show Cel w2 gn 25 _ from E2.out).set (c + i) (.int .u64 1);have e : (ws (rowE m0 i ++ List.replicate r 0)).set (c + i) (.int .u64 1) = ws ((rowE m0 i ++ List.replicate r 0).set (c + i) 1) := by simp [ws,List.map_set]
    rw [e] at this;exact this
   have B3 : Hid (Below wr.heap.size wr w3) := by unfold Hid;rw [← hw3];exact bset B2.out (by omega)
   obtain ⟨V,hV⟩ : ∃ V,w3.alloc (.cells #[rowv N gn] 42) = V := ⟨_,rfl⟩
   obtain ⟨b4,sz4⟩ := zVA w3 (.cells #[rowv N gn] 42);rw [hV] at b4 sz4;have CB : Hid (Cel V w3.heap.size 42 [rowv N gn]) := by unfold Hid;rw [← hV];exact Cel.new _ _ _
   have R4 := hid (R3.out.stay b4);have B4 := hid (below_step B3.out b4);have LN4 := hid (LN.out.now B4.out);have PM4 := hid (PM.out.step B4.out);have PZ4 := hid (PZ.out.step B4.out);have PS4 := hid (PS.out.step B4.out);have G4 := hid (below_step G.out B4.out);have c0 := CB.out.at (i := 0) rfl;have p2 := (PS.out.step B3.out).at (i := 2) rfl;have HGS : Hid (∀ b ∈ gs,b < gn) := fun b hb => by
    obtain ⟨j,hj,e⟩ := List.mem_iff_getElem.1 hb;have := (LN.out.2.2.2.2.2 j b (by rw [← e];exact List.getElem?_eq_getElem hj)).lt;have := HGN.out;omega
   have HLW : Hid ((rowE m0 i ++ uniR r i).length = N) := by unfold Hid;rw [List.length_append,HR4.out,zUG];exact HNN.out
   have HSV : Hid (w.heap.size + 3 ≤ V.heap.size) := by unfold Hid;have := B4.out.size;have := HB1.out;omega
   obtain ⟨ci,hcie⟩ : ∃ ci,c + i = ci := ⟨_,rfl⟩
   rw [hcie] at hci hci2 hcn u0 u1 hw3;have EV := hid hV;have E3 := hid hw3;rw [hgn];clear hcie;clear hrow2 hb2 hgn RS1 R1 B1 B2 E2 R3 B3 hV hw3 b4 sz4 LN PM PZ PS G hv0 hcl k1;obtain ⟨mt0,hmt⟩ : ∃ mt0,ms.take i = mt0 := ⟨_,rfl⟩
   rw [hmt] at LN4 HTI;have HMT := hid hmt;clear hmt;go_upto_region 8 with fail
   rw [E3.out];clear E3 u0 u1 k1' hci hci2 hcn;go_wp2_with (at_builtin;rw [EV.out];refine wpList_append_lns V rfl (.tmp 37) (.tmp 39) rfl (w.heap.size + 3) N (.slice la i lcap) gs mt0 gn (rowE m0 i ++ uniR r i) rfl LN4.out w3.heap.size rfl c0 R4.out HLW.out HGS.out (by have := HB1.out;have := HGN.out;omega) (by rw [HTI.out];omega) HSV.out ?_)
   intro a9 cap9 w9 LN9 KC9 BB9;have e9 : mt0 ++ [rowE m0 i ++ uniR r i] = ms.take (i + 1) := by
    have h1 := HMI.out;rw [← HMT.out];rw [List.getElem?_eq_some_iff] at h1;obtain ⟨h1,h2⟩ := h1;rw [List.take_succ_eq_append_getElem h1,h2]
   rw [HTI.out,e9] at LN9;rw [HTI.out];have PM9 := hid (KC9.out _ _ _ PM4.out (by decide));have PZ9 := hid (KC9.out _ _ _ PZ4.out (by decide));have PS9 := hid (KC9.out _ _ _ PS4.out (by decide));have G9 : Hid (Below w.heap.size w w9) := by
    unfold Hid;exact G4.out.trans (BB9.out.mono (by omega))
   have r2 := PS9.out.at (i := 2) rfl;have f2 := PS9.out.fz 2;have HN1 : Hid (BuH w p c r N (.slice (some ⟨L,0,none⟩) r cap0) ms (r - (i + 1)) (.int .i64 ((i + 1 : Nat) : Int)) (w9.setCell ⟨w.heap.size + 2,2,none⟩ (.slice (some ⟨a9,0,none⟩) (i + 1) cap9))) :=
    ⟨i + 1,_,_,rfl,by omega,rfl,LN9.out.box PS9.out (by decide) (by decide),PM9.out.ne (by omega),PZ9.out.ne (by omega),PS9.out.set 2 _,bset G9.out (by omega)⟩
   clear LN4 LN9 PM4 PM9 PZ4 PZ9 PS4 PS9 KC9 BB9 G4 G9 CB R4 HGS HLW HMI HTI e9 c0 p2 HB1;go_wp2_with fail;go_roundg (r - (i + 1))
   case rel => exact HN1.out
   case measure => exact HMM.out
  ·have hlt' : ¬ (i : Int) < (r : Int) := by omega
   obtain rfl : i = r := by omega
   have x0 := PS.out.at (i := 0) rfl;have x1 := PS.out.at (i := 1) rfl;have x2 := PS.out.at (i := 2) rfl;have y0 := PZ.out.at (i := 0) rfl;have y1 := PZ.out.at (i := 1) rfl;have y2 := PZ.out.at (i := 2) rfl;have g0 := PZ.out.fz 0;have g1 := PZ.out.fz 1;have g2 := PZ.out.fz 2;have hts : ms.take i = ms := by rw [← HML.out];exact List.take_length
   rw [hts] at LN;have FIN : Hid (zKF w p N ms (.returned (shv p N (.slice la i lcap))) (put3 wr (w.heap.size + 1) (.int .u64 (p : Int)) (.int .i64 (N : Int)) (.slice la i lcap))) :=
    ⟨_,gs,rfl,((((LN.out.box PZ.out (by decide) (by decide)).box (PZ.out.set 0 _) (by decide) (by decide)).box ((PZ.out.set 0 _).set 1 _) (by decide) (by decide))).mono (by omega),zgA G.out (by omega) _ _ _⟩
   have PF := hid (PZ.out.put3 (.int .u64 (p : Int)) (.int .i64 (N : Int)) (.slice la i lcap));clear LN PM PZ PS G HG hts;go_wp2;exact bodyPost_ret (zXI Tryz.results40 PF.out _ (by rfl)) rfl FIN.out
abbrev fnNz (cb : Nat) : Value := .func (.func 53) #[] #[.pointer (some ⟨cb,0,none⟩)]
theorem nz12 {w : World} {cb g n c : Nat} {xs : List Int} {r : List Value} (hb : w.cell? ⟨cb,0,none⟩ = some (.int .i64 (c : Int))) (hr : Row w g (ws xs ++ r)) (hl : xs.length = n) (hc : c < n) :
  Calls Tryz.prog 53 #[.slice (some ⟨g,0,none⟩) n n,.pointer (some ⟨cb,0,none⟩)] w fun e w' => e = .returned (.bool (xs.getD c 0 != 0)) ∧ w' = w := by
 have k1 := hr.at12 (i := c) (by omega);have e1 : xs.getD c 0 = xs[c] := by simp [show c < xs.length by omega]
 rw [e1];generalize xs[c] = x at *;have hc' : (c : Int) < (n : Int) := by omega
 clear e1 hr hl;go_enter Tryz.func53,Tryz.ntmps53;go_wp2;go_ret;exact ⟨rfl,rfl⟩
def zNG (c l : Nat) (ls : List (List Int)) (r : Int) : Prop := (r = -1 ∧ ∀ x ∈ ls,x.getD c 0 = 0) ∨ ∃ k : Nat,r = (k : Int) ∧ k < l ∧ (∀ j,j < k → (rowE ls j).getD c 0 = 0) ∧ (rowE ls k).getD c 0 ≠ 0
theorem index12 {w : World} {cb n c l cap : Nat} {a : Option Addr} {ls : List (List Int)} (hb : w.cell? ⟨cb,0,none⟩ = some (.int .i64 (c : Int))) (hc : c < n) (hl : ls.length = l) (hl2 : l ≤ 1048576) (hlc : l ≤ cap)
  (ha : 0 < l → ∃ L off,a = some ⟨L,off,none⟩ ∧ ∀ j,j < l → ∃ g,w.cell? ⟨L,off + j,none⟩ = some (rowv n g) ∧ Row w g (ws (rowE ls j)) ∧ (rowE ls j).length = n) :
  Calls Tryz.prog 52 #[.slice a l cap,fnNz cb] w fun e w' => (∃ r,e = .returned (.int .i64 r) ∧ zNG c l ls r) ∧ w' = w := by
 have HA := hid ha;have HB := hid hb;have HL := hid hl;clear ha hb hl;go_enter Tryz.func52,Tryz.ntmps52;go_wp2_with fail
 go_loop [8] (fun s => ∃ i : Nat,s = .int .i64 (i : Int) ∧ i ≤ l ∧ ∀ j,j < i → (rowE ls j).getD c 0 = 0) (fun s => l - (intOf s).toNat)
 case atStart => exact ⟨0,rfl,Nat.zero_le _,fun j hj => by omega⟩
 case round =>
  obtain ⟨i,rfl,hi,hz⟩ := hrel;have HZ := hid hz;clear hz
  by_cases hlt : i < l
  ·have hlt' : (i : Int) < (l : Int) := by omega
   obtain ⟨L,off,rfl,hel⟩ := HA.out (by omega);obtain ⟨g,k0,hrow,hln⟩ := hel i hlt;have HS := hid (nz12 (r := []) HB.out (Row.nil12.2 hrow) hln hc);have hw := znD hlt hl2;clear hel hrow hln
   by_cases h0 : (rowE ls i).getD c 0 = 0
   ·have e0 : ((rowE ls i).getD c 0 != 0) = false := by simp only [h0];rfl
    rw [e0] at HS;have HN : Hid (∀ j,j < i + 1 → (rowE ls j).getD c 0 = 0) := fun j hj => by
     by_cases q : j < i
     ·exact HZ.out j q
     ·obtain rfl : j = i := by omega
      exact h0
    clear e0 h0;go_wp2_with fail;refine HS.out.mono ?_;rintro e w1 ⟨rfl,rfl⟩;go_wp2_with fail;go_round
    case rel => exact ⟨i + 1,rfl,by omega,HN.out⟩
    case measure => simp [intOf];omega
   ·have e0 : ((rowE ls i).getD c 0 != 0) = true := by simpa using h0
    rw [e0] at HS;have HN : Hid (zNG c l ls (i : Int)) := .inr ⟨i,rfl,hlt,HZ.out,h0⟩;clear e0 h0;go_wp2_with fail;refine HS.out.mono ?_;rintro e w1 ⟨rfl,rfl⟩;go_wp2;go_ret;exact ⟨⟨_,rfl,HN.out⟩,rfl⟩
  ·have hlt' : ¬ (i : Int) < (l : Int) := by omega
   have HN : Hid (zNG c l ls (-1)) := .inl ⟨rfl,fun x hx => by
    obtain ⟨j,hj,e⟩ := List.mem_iff_getElem.1 hx;have := HZ.out j (by have := HL.out;omega);rw [zPB hj,e] at this;exact this⟩
   go_wp2;go_ret;exact ⟨⟨_,rfl,HN.out⟩,rfl⟩
end Go.Proofs.YtkklldokdnfkgaaGreat
