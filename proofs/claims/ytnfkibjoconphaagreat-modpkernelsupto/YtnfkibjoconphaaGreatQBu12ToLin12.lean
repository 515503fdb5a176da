/-
 QBu12ToLin12: Bu12, Bs12, Lin12, joined.
-/
import Derived.Test.YtnfkibjoconphaaGreatQSo12ToIx12
import Derived.Deep.Cut
import Derived.Test.YtnfkibjoconphaaGreatQRd12
import Derived.Shelf.Slices.SearchI
import Derived.Shelf.Slices.Empties
import Derived.Test.YtnfkibjoconphaaGreatQChk9ToFn12

set_option maxRecDepth 100000
set_option maxHeartbeats 6400000
set_option linter.unusedVariables false
set_option linter.unusedSimpArgs false
namespace Go.Proofs.YtnfkibjoconphaaGreat
open Go.RowKit
def uniR (r i : Nat) : List Int := (List.range r).map fun j => if i = j then 1 else 0
def zXB (r : Nat) (ms : List (List Int)) : List (List Int) := (List.range r).map fun i => rowE ms i ++ uniR r i
theorem zYG (r i : Nat) : (uniR r i).length = r := by simp [uniR]
theorem zGB (r : Nat) (ms : List (List Int)) : (zXB r ms).length = r := by simp [zXB]
theorem zoC {r i : Nat} {ms : List (List Int)} (h : i < r) : (zXB r ms)[i]? = some (rowE ms i ++ uniR r i) := by simp [zXB,h]
theorem uni_set {r i c : Nat} {row : List Int} (hc : row.length = c) (hi : i < r) : (row ++ List.replicate r 0).set (c + i) 1 = row ++ uniR r i := by
 subst hc
 apply List.ext_getElem
 ·simp [uniR]
 ·intro j h1 h2
  rw [List.getElem_set]
  by_cases q : j < row.length
  ·rw [if_neg (by omega),List.getElem_append_left q,List.getElem_append_left q]
  ·rw [List.getElem_append_right (by omega),List.getElem_append_right (by omega)]
   simp [uniR]
   by_cases e : row.length + i = j
   ·rw [if_pos e,if_pos (by omega)]
   ·rw [if_neg e,if_neg (by omega)]
theorem wpList_copy_wide (w : World) {ops : Array Oper} {rest : List Oper} {o : Oper} {a : Act} {Q : Exit → Act → World → Prop}
  (hgd : o.guard = none) (d s : Operand) (hop : o.op = .call { callee := .builtin .copy,args := #[d,s],argTypes := #[41,41] })
  (g N n capD capS b : Nat) (src : List Int) (hrow : Row w g (ws (List.replicate N 0))) (hd : a.eval d = .slice (some ⟨g,0,none⟩) N capD) (hs : a.eval s = .slice (some ⟨b,0,none⟩) n capS)
  (hlen : src.length = n) (hnN : n ≤ N) (hsrc : Row w b (ws src))
  (hK : ∀ w',Row w' g (ws (src ++ List.replicate (N - n) 0)) → Below g w w' → wpList Tryz.prog ops Q rest (a.put o.dst (goInt n)) w') :
  wpList Tryz.prog ops Q (o :: rest) a w := by
 refine wpList_copy_splice hgd d s 41 41 hop 25 Tryz.underlying41 Tryz.sizeW _ _ N capD n capS hd hs g 0 (ws (List.replicate N 0)) 25 hrow (ws src) (by rw [zKA,hlen];exact (Nat.min_eq_left hnN).symm) ?_ (by simp [zKA];omega) ?_ g w (Below.refl _ _) (Nat.le_refl _) ?_
 ·intro hpos
  refine ⟨rfl,_,rfl,fun j v hj => ?_⟩;rw [ztB];exact (show Cel w b 25 (ws src) from hsrc).at hj
 ·intro v hv
  simp only [ws,List.mem_map] at hv;obtain ⟨x,-,rfl⟩ := hv
  rfl
 ·intro w' h1 h2
  rw [zKA,hlen];refine hK w' ?_ h2;have := h1.out;rw [zTD N n src hlen] at this;exact this
def BuH (w : World) (p c r N : Nat) (lv : Value) (ms : List (List Int)) (gk : Nat) (s : Value) (wx : World) : Prop :=
 ∃ (i : Nat) (gs : List Nat) (jv : Value),s = .int .i64 (i : Int) ∧ i ≤ r ∧ gk = r - i ∧ Lns (w.heap.size + 3) wx jv N gs (ms.take i) ∧ Cel wx w.heap.size 67 (shc p c lv) ∧ Cel wx (w.heap.size + 1) 67 [.int .u64 0,.int .i64 0,.slice none 0 0] ∧ Cel wx (w.heap.size + 2) 67 (shc p N jv) ∧ Below w.heap.size w wx
theorem besideUnit12 {w : World} {lv : Value} {B p r c : Nat} {gs0 : List Nat} {m0 : List (List Int)} (hL : Lns B w lv c gs0 m0) (hm : m0.length = r) (hr : r ≤ 64) (hc : c ≤ 64) :
  Calls Tryz.prog 60 #[shv p c lv] w (zMF w p (c + r) (zXB r m0)) := by
 obtain ⟨a0,cap0,rfl,hcap,hform⟩ := hL.form;rw [hm] at hL hcap hform ⊢;obtain ⟨N,hN⟩ : ∃ N,c + r = N := ⟨_,rfl⟩
 have hcr : IntKind.i64.wrap ((c : Int) + (r : Int)) = ((N : Nat) : Int) := by rw [zPA] <;> omega
 have hcr2 := hcr;rw [IntKind.wrap_i64] at hcr2;have HNN := hid hN;rw [hN];obtain ⟨W0,hW⟩ : ∃ W0,((w.alloc (shO p c (.slice a0 r cap0))).alloc shz).alloc (shO p N (.slice none 0 0)) = W0 := ⟨_,rfl⟩
 have b0 : Below w.heap.size w W0 := by rw [← hW];exact ((((Below.refl _ _).alloc (Nat.le_refl _) _).alloc (by simp) _).alloc (by simp;omega) _)
 have PM : Hid (Cel W0 w.heap.size 67 (shc p c (.slice a0 r cap0))) := by
  unfold Hid;rw [← hW];exact ((Cel.new w _ _).step (zJA _ _).1).step (zJA _ _).1
 have PZ : Hid (Cel W0 (w.heap.size + 1) 67 [.int .u64 0,.int .i64 0,.slice none 0 0]) := by
  unfold Hid;rw [← hW];have := (Cel.new (w.alloc (shO p c (.slice a0 r cap0))) 67 [.int .u64 0,.int .i64 0,.slice none 0 0]).step (zJA _ (shO p N (.slice none 0 0))).1
  simpa using this
 have PS : Hid (Cel W0 (w.heap.size + 2) 67 (shc p N (.slice none 0 0))) := by
  unfold Hid;rw [← hW];have := Cel.new ((w.alloc (shO p c (.slice a0 r cap0))).alloc shz) 67 (shc p N (.slice none 0 0))
  simpa using this
 obtain ⟨ms,hms⟩ : ∃ ms,zXB r m0 = ms := ⟨_,rfl⟩
 have HMS : Hid (∀ i,i < r → ms[i]? = some (rowE m0 i ++ uniR r i)) := fun i hi => by rw [← hms];exact zoC hi
 have HML : Hid (ms.length = r) := by unfold Hid;rw [← hms];exact zGB _ _
 rw [hms];have H0 : Hid (BuH w p c r N (.slice a0 r cap0) ms r (.int .i64 0) W0) := ⟨0,[],_,rfl,Nat.zero_le _,rfl,by rw [List.take_zero];exact Lns.nil _ _ _,PM.out,PZ.out,PS.out,b0⟩
 have LS := hid hL;have HM0 := hid hm;have HF := hid hform;have y1 := (Cel.new w 67 (shc p c (.slice a0 r cap0))).step (zJA _ shz).1;have x0 := y1.at (i := 0) rfl;have x1 := y1.at (i := 1) rfl;have x2 := y1.at (i := 2) rfl;have z2 := PM.out.at (i := 2) rfl;rw [← hW] at z2;have EW := hid hW;clear b0 hW hL hm hform hms PM PZ PS y1 hN;go_enter Tryz.func60,Tryz.ntmps60;go_wp2_with fail;rw [EW.out];clear EW x0 x1 x2 z2
 go_loopg [19] r (fun gk s19 wx => BuH w p c r N (.slice a0 r cap0) ms gk s19 wx)
 case atStart => exact H0.out
 case round =>
  clear H0;obtain ⟨i,gs,jv,rfl,hin,hgk,hln,hmm,hz0,hs0,hG⟩ := hrel;have LN := hid hln;have PM := hid hmm;have PZ := hid hz0;have PS := hid hs0;have G := hid hG;have HG := hid hgk;have hti : (ms.take i).length = i := by rw [List.length_take,HML.out];omega
  obtain ⟨la,lcap,rfl,-,-⟩ := hln.form;rw [hti] at LN PS;have HTI := hid hti;clear hln hmm hz0 hs0 hG hgk hti
  by_cases hlt : i < r
  ·have hlt' : (i : Int) < (r : Int) := by omega
   obtain ⟨L,rfl,-,-⟩ := HF.out (by omega);obtain ⟨gi,q1,q2,q3,q4⟩ := LS.out.blk (i := i) (by rw [HM0.out];exact hlt);have LSW := hid (LS.out.now G.out);have k0 := (LSW.out.line q1).1;have RS : Hid (Row wr gi (ws (rowE m0 i))) := by
    obtain ⟨gi',e1,e2,e3,e4⟩ := LSW.out.blk (i := i) (by rw [HM0.out];exact hlt);rw [q1,Option.some.injEq] at e1;subst e1;exact e3
   have HR4 := hid q4;have hw := zmA (i := i) (by omega);have hci : IntKind.i64.wrap ((c : Int) + (i : Int)) = ((c + i : Nat) : Int) := by rw [zPA] <;> omega
   have hci2 := hci;rw [IntKind.wrap_i64] at hci2;have hcn : ((c + i : Nat) : Int) < (N : Int) := by have := HNN.out;omega
   have k1 := PM.out.at (i := 1) rfl;have s1 := PS.out.at (i := 1) rfl;have HMM : Hid (r - (i + 1) < gk) := by unfold Hid;rw [HG.out];omega
   have HB1 : Hid (w.heap.size + 3 ≤ wr.heap.size) := by unfold Hid;have := PS.out.blk;omega
   have HMI := hid (HMS.out i hlt);clear HG q1 q2 q3 q4 LSW;go_wp2_with (at_make;refine wpList_make_words _ rfl _ _ rfl _ _ N N rfl rfl rfl rfl (Nat.le_refl _) (by have := HNN.out;omega) ?_)
   intro w1 hrow hb1 hsz1;have RS1 := hid (RS.out.stay hb1);have R1 := hid hrow;have B1 := hid hb1;clear hrow hb1 hsz1 s1 k0 RS;go_wp2_with (refine wpList_copy_wide _ rfl (.tmp 27) (.tmp 28) rfl wr.heap.size N c N c gi (rowE m0 i) R1.out rfl rfl HR4.out (by have := HNN.out;omega) RS1.out ?_)
   intro w2 hrow2 hb2;have B2 := hid (B1.out.trans hb2);have E2 : Hid (Row w2 wr.heap.size (ws (rowE m0 i ++ List.replicate r 0))) := by
    unfold Hid;rw [show N - c = r by have := HNN.out;omega] at hrow2;exact hrow2
   have k1' := cnow B2.out k1;obtain ⟨gn,hgn⟩ : ∃ gn,wr.heap.size = gn := ⟨_,rfl⟩
   rw [hgn] at E2;have HGN := hid hgn;have hcl : c + i < (ws (rowE m0 i ++ List.replicate r 0)).length := by rw [zKA,List.length_append,HR4.out,List.length_replicate];omega
   obtain ⟨v0,hv0⟩ : ∃ v0,(ws (rowE m0 i ++ List.replicate r 0))[c + i]? = some (.int .u64 v0) := ⟨(rowE m0 i ++ List.replicate r 0)[c + i]'(by rw [zKA] at hcl;exact hcl),by unfold ws;rw [List.getElem?_map,List.getElem?_eq_getElem (by rw [zKA] at hcl;exact hcl)];rfl⟩
   have u0 := (show Cel w2 gn 25 _ from E2.out).at hv0;have u1 := (show Cel w2 gn 25 _ from E2.out).fz (c + i);obtain ⟨w3,hw3⟩ : ∃ w3,w2.setCell ⟨gn,c + i,none⟩ (.int .u64 1) = w3 := ⟨_,rfl⟩
   have R3 : Hid (Row w3 gn (ws (rowE m0 i ++ uniR r i))) := by
    unfold Hid;rw [← hw3,← uni_set HR4.out hlt];have := (show Cel w2 gn 25 _ from E2.out).set (c + i) (.int .u64 1);have e : (ws (rowE m0 i ++ List.replicate r 0)).set (c + i) (.int .u64 1) = ws ((rowE m0 i ++ List.replicate r 0).set (c + i) 1) := by simp [ws,List.map_set]
    rw [e] at this;exact this
   have B3 : Hid (Below wr.heap.size wr w3) := by unfold Hid;rw [← hw3];exact bset B2.out (by omega)
   obtain ⟨V,hV⟩ : ∃ V,w3.alloc (.cells #[rowv N gn] 41) = V := ⟨_,rfl⟩
   obtain ⟨b4,sz4⟩ := zJA w3 (.cells #[rowv N gn] 41);rw [hV] at b4 sz4;have CB : Hid (Cel V w3.heap.size 41 [rowv N gn]) := by unfold Hid;rw [← hV];exact Cel.new _ _ _
   have R4 := hid (R3.out.stay b4);have B4 := hid (below_step B3.out b4);have LN4 := hid (LN.out.now B4.out);have PM4 := hid (PM.out.step B4.out);have PZ4 := hid (PZ.out.step B4.out);have PS4 := hid (PS.out.step B4.out);have G4 := hid (below_step G.out B4.out);have c0 := CB.out.at (i := 0) rfl;have p2 := (PS.out.step B3.out).at (i := 2) rfl;have HGS : Hid (∀ b ∈ gs,b < gn) := fun b hb => by
    obtain ⟨j,hj,e⟩ := List.mem_iff_getElem.1 hb;have := (LN.out.2.2.2.2.2 j b (by rw [← e];exact List.getElem?_eq_getElem hj)).lt;have := HGN.out;omega
   have HLW : Hid ((rowE m0 i ++ uniR r i).length = N) := by unfold Hid;rw [List.length_append,HR4.out,zYG];exact HNN.out
   have HSV : Hid (w.heap.size + 3 ≤ V.heap.size) := by unfold Hid;have := B4.out.size;have := HB1.out;omega
   obtain ⟨ci,hcie⟩ : ∃ ci,c + i = ci := ⟨_,rfl⟩
   rw [hcie] at hci hci2 hcn u0 u1 hw3;have EV := hid hV;have E3 := hid hw3;rw [hgn];clear hcie;clear hrow2 hb2 hgn RS1 R1 B1 B2 E2 R3 B3 hV hw3 b4 sz4 LN PM PZ PS G hv0 hcl k1;obtain ⟨mt0,hmt⟩ : ∃ mt0,ms.take i = mt0 := ⟨_,rfl⟩
   rw [hmt] at LN4 HTI;have HMT := hid hmt;clear hmt;go_upto_region 8 with fail
   rw [E3.out];clear E3 u0 u1 k1' hci hci2 hcn;go_wp2_with (at_builtin;rw [EV.out];refine wpList_append_lns V rfl (.tmp 37) (.tmp 39) rfl (w.heap.size + 3) N (.slice la i lcap) gs mt0 gn (rowE m0 i ++ uniR r i) rfl LN4.out w3.heap.size rfl c0 R4.out HLW.out HGS.out (by have := HB1.out;have := HGN.out;omega) (by rw [HTI.out];omega) HSV.out ?_)
   intro a9 cap9 w9 LN9 KC9 BB9;have e9 : mt0 ++ [rowE m0 i ++ uniR r i] = ms.take (i + 1) := by
    have h1 := HMI.out;rw [← HMT.out];rw [List.getElem?_eq_some_iff] at h1;obtain ⟨h1,h2⟩ := h1;rw [List.take_succ_eq_append_getElem h1,h2]
   rw [HTI.out,e9] at LN9;rw [HTI.out];have PM9 := hid (KC9.out _ _ _ PM4.out (by decide));have PZ9 := hid (KC9.out _ _ _ PZ4.out (by decide));have PS9 := hid (KC9.out _ _ _ PS4.out (by decide));have G9 : Hid (Below w.heap.size w w9) := by
    unfold Hid;exact G4.out.trans (BB9.out.mono (by omega))
   have r2 := PS9.out.at (i := 2) rfl;have f2 := PS9.out.fz 2;have HN1 : Hid (BuH w p c r N (.slice (some ⟨L,0,none⟩) r cap0) ms (r - (i + 1)) (.int .i64 ((i + 1 : Nat) : Int)) (w9.setCell ⟨w.heap.size + 2,2,none⟩ (.slice (some ⟨a9,0,none⟩) (i + 1) cap9))) :=
    ⟨i + 1,_,_,rfl,by omega,rfl,LN9.out.box PS9.out (by decide) (by decide),PM9.out.ne (by omega),PZ9.out.ne (by omega),PS9.out.set 2 _,bset G9.out (by omega)⟩
   clear LN4 LN9 PM4 PM9 PZ4 PZ9 PS4 PS9 KC9 BB9 G4 G9 CB R4 HGS HLW HMI HTI e9 c0 p2 HB1;go_wp2_with fail;go_roundg (r - (i + 1))
   case rel => exact HN1.out
   case measure => exact HMM.out
  ·have hlt' : ¬ (i : Int) < (r : Int) := by omega
   obtain rfl : i = r := by omega
   have x0 := PS.out.at (i := 0) rfl;have x1 := PS.out.at (i := 1) rfl;have x2 := PS.out.at (i := 2) rfl;have y0 := PZ.out.at (i := 0) rfl;have y1 := PZ.out.at (i := 1) rfl;have y2 := PZ.out.at (i := 2) rfl;have g0 := PZ.out.fz 0;have g1 := PZ.out.fz 1;have g2 := PZ.out.fz 2;have hts : ms.take i = ms := by rw [← HML.out];exact List.take_length
   rw [hts] at LN;have FIN : Hid (zMF w p N ms (.returned (shv p N (.slice la i lcap))) (put3 wr (w.heap.size + 1) (.int .u64 (p : Int)) (.int .i64 (N : Int)) (.slice la i lcap))) :=
    ⟨_,gs,rfl,((((LN.out.box PZ.out (by decide) (by decide)).box (PZ.out.set 0 _) (by decide) (by decide)).box ((PZ.out.set 0 _).set 1 _) (by decide) (by decide))).mono (by omega),zWA G.out (by omega) _ _ _⟩
   have PF := hid (PZ.out.put3 (.int .u64 (p : Int)) (.int .i64 (N : Int)) (.slice la i lcap));clear LN PM PZ PS G HG hts;go_wp2;exact bodyPost_ret (zLI Tryz.results60 PF.out _ (by rfl)) rfl FIN.out
def renB : Go.Shelf.Ren := ⟨fun | 25 => 61 | 31 => 77 | 32 => 78 | 37 => 92 | n => n,fun | 0 => 0 | 3 => 3 | 4 => 4 | 22 => 37 | 40 => 113 | n => n,fun n => n⟩
theorem zWI : Go.Proofs.Lays2.n25 Tryz.prog renB := {
 mixed := by kernel_rfl
 f25 := Tryz.func61.trans (congrArg some (by kernel_rfl))
 f31 := Tryz.func77.trans (congrArg some (by kernel_rfl))
 f32 := Tryz.func78.trans (congrArg some (by kernel_rfl))
 f37 := Tryz.func92.trans (congrArg some (by kernel_rfl))
 t0 := by kernel_rfl
 a0 := fun w => by kernel_rfl
 z0 := fun w => by kernel_rfl
 v0 := fun w => by kernel_rfl
 t3 := Tryz.underlying3
 a3 := Tryz.isAgg3
 z3 := Tryz.sizeOf3
 v3 := Tryz.zeroValue3
 t4 := Tryz.underlying4
 a4 := Tryz.isAgg4
 z4 := Tryz.sizeOf4
 v4 := Tryz.zeroValue4
 t22 := Tryz.underlying37
 a22 := Tryz.isAgg37
 z22 := Tryz.sizeOf37
 v22 := Tryz.zeroValue37
 t40 := Tryz.underlying113
 a40 := Tryz.isAgg113
 z40 := Tryz.sizeOf113
 v40 := Tryz.zeroValue113 }
def cntB (pv : List Nat) (x : Nat) : Nat := pv.countP (· < x)
theorem zOG (pv : List Nat) (x : Nat) : cntB pv x ≤ pv.length := List.countP_le_length
theorem search12 {w : World} {B : Nat} {v : Value} {pv : List Nat} {x : Nat} (hv : Pvs B w v pv) (hp : pv.Pairwise (· < ·)) (hl : pv.length ≤ 1000000) :
  Calls Tryz.prog 61 #[v,.int .i64 (x : Int)] w fun e w' => ∃ f,e = .returned (.tuple #[.int .i64 (cntB pv x : Int),.bool f]) ∧ Below w.heap.size w w' := by
 have e1 : ((pv.map fun (a : Nat) => (a : Int)).countP (· < (x : Int)) : Nat) = cntB pv x := by
  unfold cntB;rw [List.countP_map];exact List.countP_congr fun a _ => by simp
 have hs : (pv.map fun (a : Nat) => (a : Int)).Pairwise (· ≤ ·) := by
  rw [List.pairwise_map];exact hp.imp fun h => by omega
 have hv' := hv;obtain ⟨q1,⟨q2,q3⟩ | ⟨g,cap,cur,q2,q3,q4,q5,q6⟩⟩ := hv
 ·rw [q2]
  have hnil : pv = [] := List.eq_nil_of_length_eq_zero q3;refine (Any.slices_BinarySearch_int_empty zWI none 0 (x : Int) w).mono ?_;rintro e w' ⟨rfl,rfl⟩;exact ⟨false,by rw [hnil];rfl,Below.refl _ _⟩
 ·rw [q2]
  refine (Any.slices_BinarySearch_int zWI g 0 pv.length cap (pv.map fun (a : Nat) => (a : Int)) (x : Int) w (by simp) (by omega) (fun j hj => ?_) (by rw [List.take_of_length_le (by simp)];exact hs)).mono ?_
  ·have hj' : j < pv.length := by simpa using hj
   rw [q2] at hv';have := World.ownsRow.cellAt hv' j (by omega);rw [Nat.zero_add,this];simp [hj']
  ·rintro e w' ⟨rfl,q,rfl⟩
   refine ⟨_,by rw [List.take_of_length_le (by simp),e1],?_⟩;exact ⟨rfl,rfl,rfl,Nat.le_refl _,fun _ _ => rfl⟩
end Go.Proofs.YtnfkibjoconphaaGreat
namespace Go.Proofs.YtnfkibjoconphaaGreat
variable {p : Nat} [NeZero p]
def sm : Nat → (Nat → Fin p) → Fin p
 | 0,_ => 0
 | n + 1,f => sm n f + f n
theorem ziA : ∀ {n : Nat} {f g : Nat → Fin p},(∀ k,k < n → f k = g k) → sm n f = sm n g
 | 0,_,_,_ => rfl
 | n + 1,f,g,h => by
  simp only [sm];rw [ziA (n := n) (fun k hk => h k (by omega)),h n (by omega)]
theorem zKD : ∀ {n : Nat} {f : Nat → Fin p},(∀ k,k < n → f k = 0) → sm n f = 0
 | 0,_,_ => rfl
 | n + 1,f,h => by
  simp only [sm];rw [zKD (n := n) (fun k hk => h k (by omega)),h n (by omega)]
  grind
theorem zdG : ∀ (n : Nat) (f g : Nat → Fin p),sm n (fun k => f k + g k) = sm n f + sm n g
 | 0,_,_ => by simp only [sm];grind
 | n + 1,f,g => by
  simp only [sm];rw [zdG n f g]
  grind
theorem zdE : ∀ (n : Nat) (c : Fin p) (f : Nat → Fin p),sm n (fun k => c * f k) = c * sm n f
 | 0,_,_ => by simp only [sm];grind
 | n + 1,c,f => by
  simp only [sm];rw [zdE n c f]
  grind
theorem zOH (n : Nat) (c : Fin p) (f : Nat → Fin p) : sm n (fun k => f k * c) = sm n f * c := by
 rw [ziA (g := fun k => c * f k) (fun k _ => by grind),zdE]
 grind
theorem zMH : ∀ (n m : Nat) (f : Nat → Nat → Fin p),sm n (fun i => sm m (fun j => f i j)) = sm m (fun j => sm n (fun i => f i j))
 | 0,m,f => by
  simp only [sm];rw [zKD (fun _ _ => rfl)]
 | n + 1,m,f => by
  simp only [sm];rw [zMH n m f,zdG]
theorem zcE : ∀ {n i : Nat} {f : Nat → Fin p},i < n → (∀ k,k < n → k ≠ i → f k = 0) → sm n f = f i
 | 0,i,f,h,_ => by omega
 | n + 1,i,f,h,hz => by
  simp only [sm]
  by_cases e : i = n
  ·subst e
   rw [zKD (fun k hk => hz k (by omega) (by omega))]
   grind
  ·rw [zcE (i := i) (by omega) (fun k hk hne => hz k (by omega) hne),hz n (by omega) (fun q => e q.symm)]
   grind
theorem zcG {r : Nat} {f : Nat → Fin p} : ∀ {m : Nat},r ≤ m → (∀ k,r ≤ k → k < m → f k = 0) → sm m f = sm r f
 | 0,h,_ => by
  obtain rfl : r = 0 := by omega
  rfl
 | m + 1,h,hz => by
  by_cases e : r = m + 1
  ·subst e;rfl
  ·simp only [sm]
   rw [zcG (m := m) (by omega) (fun k h1 h2 => hz k h1 (by omega)),hz m (by omega) (by omega)]
   grind
def dlt (i j : Nat) : Fin p := if i = j then 1 else 0
def vm (m : Nat) (x : Nat → Fin p) (M : Nat → Nat → Fin p) (j : Nat) : Fin p := sm m (fun i => x i * M i j)
theorem zXG (m k : Nat) (x : Nat → Fin p) (A B : Nat → Nat → Fin p) (j : Nat) : vm k (vm m x A) B j = vm m x (fun i => vm k (A i) B) j := by
 unfold vm;rw [ziA (g := fun i => sm m (fun l => x l * A l i * B i j)) (fun i _ => (zOH _ _ _).symm),zMH];refine ziA fun i _ => ?_
 rw [← zdE];exact ziA fun l _ => by grind
theorem zTC {m : Nat} {x y : Nat → Fin p} {A B : Nat → Nat → Fin p} {j : Nat} (hx : ∀ i,i < m → x i = y i) (hA : ∀ i,i < m → A i j = B i j) : vm m x A j = vm m y B j :=
 ziA fun i hi => by rw [hx i hi,hA i hi]
theorem zRF {m i : Nat} (hi : i < m) (A : Nat → Nat → Fin p) (j : Nat) : vm m (dlt i) A j = A i j := by
 unfold vm;rw [zcE hi (fun k _ hne => by unfold dlt;rw [if_neg (fun q => hne q.symm)];grind)];unfold dlt;rw [if_pos rfl]
 grind
def Comb (n m l : Nat) (M A : Nat → Nat → Fin p) : Prop := ∃ U : Nat → Nat → Fin p,∀ i j,i < m → j < n → M i j = vm l (U i) A j
theorem Comb.refl (n m : Nat) (M : Nat → Nat → Fin p) : Comb n m m M M := ⟨dlt,fun i j hi _ => (zRF hi M j).symm⟩
theorem Comb.trans {n m l k : Nat} {M A B : Nat → Nat → Fin p} (h1 : Comb n m l M A) (h2 : Comb n l k A B) : Comb n m k M B := by
 obtain ⟨U,hU⟩ := h1;obtain ⟨V,hV⟩ := h2;refine ⟨fun i => vm l (U i) V,fun i j hi hj => ?_⟩;rw [hU i j hi hj,zXG];exact zTC (fun _ _ => rfl) (fun k hk => hV k j hk hj)
theorem Comb.two {n m : Nat} {M A : Nat → Nat → Fin p} {f g : Nat → Nat} {a b : Nat → Fin p} (hf : ∀ i,i < m → f i < m) (hg : ∀ i,i < m → g i < m) (h : ∀ i j,i < m → j < n → M i j = a i * A (f i) j + b i * A (g i) j) : Comb n m m M A := by
 refine ⟨fun i k => a i * dlt (f i) k + b i * dlt (g i) k,fun i j hi hj => ?_⟩;rw [h i j hi hj];unfold vm;rw [ziA (g := fun k => a i * (dlt (f i) k * A k j) + b i * (dlt (g i) k * A k j)) (fun k _ => by grind),zdG,zdE,zdE];have e1 := zRF (hf i hi) A j;have e2 := zRF (hg i hi) A j;unfold vm at e1 e2;rw [e1,e2]
def Eqv (n m : Nat) (M A : Nat → Nat → Fin p) : Prop := Comb n m m M A ∧ Comb n m m A M
theorem Eqv.refl (n m : Nat) (M : Nat → Nat → Fin p) : Eqv n m M M := ⟨Comb.refl _ _ _,Comb.refl _ _ _⟩
theorem Eqv.trans {n m : Nat} {M A B : Nat → Nat → Fin p} (h1 : Eqv n m M A) (h2 : Eqv n m A B) : Eqv n m M B := ⟨h1.1.trans h2.1,h2.2.trans h1.2⟩
theorem Eqv.symm {n m : Nat} {M A : Nat → Nat → Fin p} (h : Eqv n m M A) : Eqv n m A M := ⟨h.2,h.1⟩
structure Rref (m c : Nat) (M : Nat → Nat → Fin p) (pv : List Nat) : Prop where
 len : pv.length ≤ m
 inc : ∀ (s t a b : Nat),s < t → pv[s]? = some a → pv[t]? = some b → a < b
 lt : ∀ (t a : Nat),pv[t]? = some a → a < c
 one : ∀ (t a i : Nat),pv[t]? = some a → i < m → M i a = dlt i t
 low : ∀ (t a j : Nat),pv[t]? = some a → j < a → M t j = 0
 zer : ∀ (i j : Nat),pv.length ≤ i → i < m → j < c → M i j = 0
theorem Rref.start (m : Nat) (M : Nat → Nat → Fin p) : Rref m 0 M [] :=
 ⟨by simp,fun s t a b _ h => by simp at h,fun t a h => by simp at h,fun t a i h => by simp at h,fun t a j h => by simp at h,fun i j _ _ h => by omega⟩
theorem Rref.congr {m c n : Nat} {M N : Nat → Nat → Fin p} {pv : List Nat} (h : Rref m c M pv) (hc : c ≤ n) (e : ∀ i j,i < m → j < n → N i j = M i j) : Rref m c N pv := by
 refine ⟨h.len,h.inc,h.lt,fun t a i ht hi => ?_,fun t a j ht hj => ?_,fun i j h1 h2 h3 => ?_⟩
 ·rw [e i a hi (by have := h.lt t a ht;omega)];exact h.one t a i ht hi
 ·have h1 : t < pv.length := (List.getElem?_eq_some_iff.1 ht).1
  have h2 := h.len;rw [e t j (by omega) (by have := h.lt t a ht;omega)];exact h.low t a j ht hj
 ·rw [e i j h2 (by omega)];exact h.zer i j h1 h2 h3
theorem Rref.skip {m c : Nat} {M : Nat → Nat → Fin p} {pv : List Nat} (h : Rref m c M pv) (hz : ∀ i,pv.length ≤ i → i < m → M i c = 0) : Rref m (c + 1) M pv := by
 refine ⟨h.len,h.inc,fun t a q => Nat.lt_succ_of_lt (h.lt t a q),h.one,h.low,fun i j h1 h2 h3 => ?_⟩
 by_cases e : j = c
 ·subst e;exact hz i h1 h2
 ·exact h.zer i j h1 h2 (by omega)
theorem Rref.swap {m c : Nat} {M N : Nat → Nat → Fin p} {pv : List Nat} (h : Rref m c M pv) {a b : Nat} (ha : pv.length ≤ a) (hb : pv.length ≤ b) (ham : a < m) (hbm : b < m)
  (hN : ∀ i j,i < m → N i j = M (if i = a then b else if i = b then a else i) j) : Rref m c N pv := by
 have key : ∀ i, i < m → (if i = a then b else if i = b then a else i) < m := fun i hi => by split; · exact hbm
                                                                                             · split <;> omega
 have keep : ∀ i,i < pv.length → (if i = a then b else if i = b then a else i) = i := fun i hi => by rw [if_neg (by omega),if_neg (by omega)]
 have hl := h.len;refine ⟨h.len,h.inc,h.lt,fun t q i ht hi => ?_,fun t q j ht hj => ?_,fun i j h1 h2 h3 => ?_⟩
 ·have h1 : t < pv.length := (List.getElem?_eq_some_iff.1 ht).1
  rw [hN i q hi,h.one t q _ ht (key i hi)];unfold dlt
  by_cases e : i < pv.length
  ·rw [keep i e]
  ·have : (if i = a then b else if i = b then a else i) ≠ t := by split; · omega
                                                                  · split <;> omega
   rw [if_neg this,if_neg (by omega)]
 ·have h1 : t < pv.length := (List.getElem?_eq_some_iff.1 ht).1
  rw [hN t j (by omega),keep t h1];exact h.low t q j ht hj
 ·rw [hN i j h2]
  refine h.zer _ j ?_ (key i h2) h3
  split
  ·omega
  ·split <;> omega
theorem Rref.clear {m c : Nat} {M N : Nat → Nat → Fin p} {pv : List Nat} (h : Rref m c M pv) (htop : pv.length < m) {y : Fin p} (hy : M pv.length c * y = 1)
  (hN : ∀ i j,i < m → N i j = if i = pv.length then M i j * y else M i j - M i c * (M pv.length j * y)) : Rref m (c + 1) N (pv ++ [c]) := by
 have hz : ∀ j,j < c → M pv.length j = 0 := fun j hj => h.zer _ j (Nat.le_refl _) htop hj
 have same : ∀ i j,i < m → j < c → N i j = M i j := fun i j hi hj => by
  rw [hN i j hi]
  split
  ·rename_i e;subst e;rw [hz j hj];grind
  ·rw [hz j hj];grind
 have split_at : ∀ t a,(pv ++ [c])[t]? = some a → (pv[t]? = some a ∧ t < pv.length) ∨ (t = pv.length ∧ a = c) := fun t a ht => by
  by_cases q : t < pv.length
  ·rw [List.getElem?_append_left q] at ht;exact .inl ⟨ht,q⟩
  ·rw [List.getElem?_append_right (by omega)] at ht
   right
   by_cases q2 : t - pv.length = 0
   ·rw [q2] at ht;simp at ht;exact ⟨by omega,ht.symm⟩
   ·rw [show t - pv.length = (t - pv.length - 1) + 1 by omega] at ht;simp at ht
 refine ⟨by simp;omega,fun s t a b hst hs ht => ?_,fun t a ht => ?_,fun t a i ht hi => ?_,fun t a j ht hj => ?_,fun i j h1 h2 h3 => ?_⟩
 ·rcases split_at s a hs with ⟨h1,q1⟩ | ⟨rfl,rfl⟩
  ·rcases split_at t b ht with ⟨h2,q2⟩ | ⟨rfl,rfl⟩
   ·exact h.inc s t a b hst h1 h2
   ·exact h.lt s a h1
  ·rcases split_at t b ht with ⟨h2,q2⟩ | ⟨rfl,rfl⟩ <;> omega
 ·rcases split_at t a ht with ⟨h1,q1⟩ | ⟨rfl,rfl⟩
  ·exact Nat.lt_succ_of_lt (h.lt t a h1)
  ·omega
 ·rcases split_at t a ht with ⟨h1,q1⟩ | ⟨rfl,rfl⟩
  ·rw [same i a hi (h.lt t a h1)];exact h.one t a i h1 hi
  ·rw [hN i a hi]
   unfold dlt
   by_cases e : i = pv.length
   ·subst e;rw [if_pos rfl,if_pos rfl];exact hy
   ·rw [if_neg e,if_neg e,hy];grind
 ·rcases split_at t a ht with ⟨h1,q1⟩ | ⟨rfl,rfl⟩
  ·rw [same t j (by have := h.len;omega) (by have := h.lt t a h1;omega)];exact h.low t a j h1 hj
  ·rw [same _ j htop hj];exact hz j hj
 ·simp only [List.length_append,List.length_cons,List.length_nil] at h1
  by_cases e : j = c
  ·subst e
   rw [hN i j h2,if_neg (by omega),hy];grind
  ·rw [same i j h2 (by omega)];exact h.zer i j (by omega) h2 (by omega)
theorem Rref.coords {m n : Nat} {M : Nat → Nat → Fin p} {pv : List Nat} (h : Rref m n M pv) {v x : Nat → Fin p} (hv : ∀ j,j < n → v j = vm m x M j) {j : Nat} (hj : j < n) :
  v j = vm pv.length (fun t => v (pv.getD t 0)) M j := by
 rw [hv j hj];unfold vm;rw [zcG h.len (fun k h1 h2 => by rw [h.zer k j h1 h2 hj];grind)];refine ziA fun t ht => ?_
 have e : pv[t]? = some (pv.getD t 0) := by simp [ht]
 have hl := h.len
 congr 1
 show x t = v (pv.getD t 0)
 rw [hv _ (h.lt t _ e)];unfold vm;rw [zcE (i := t) (by omega) (fun k hk hne => by rw [h.one t _ k e hk];unfold dlt;rw [if_neg hne];grind),h.one t _ t e (by omega)];unfold dlt;rw [if_pos rfl]
 grind
end Go.Proofs.YtnfkibjoconphaaGreat
