import Derived.Test.YtkklldokdnfkgaaGreatQSo12
import Derived.Test.YtkklldokdnfkgaaGreatQCw12ToTy9
import Derived.Test.YtkklldokdnfkgaaGreatQRd12
set_option maxRecDepth 100000
set_option maxHeartbeats 6400000
set_option linter.unusedVariables false
set_option linter.unusedSimpArgs false
namespace Go.Proofs.YtkklldokdnfkgaaGreat
open Go.RowKit
def zdD (top left : Nat) (ms : List (List Int)) : List (List Int) := (ms.drop top).map (List.drop left)
theorem step_append_sl (w : World) {ops : Array Oper} {o : Oper} {a : Act} {K : Act → World → Prop} {Q : Exit → Act → World → Prop} {E : Prop}
  (hgd : o.guard = none) (s x : Operand) (hop : o.op = .call { callee := .builtin .append,args := #[s,x],argTypes := #[52,52] })
  (B n : Nat) (v : Value) (Us : List Value) (u : Value) (hs : a.eval s = v) (h1 : w.ownsRow B 42 1 v n Us) (gx : Nat) (hx : a.eval x = .slice (some ⟨gx,0,none⟩) 1 1) (hc : w.cell? ⟨gx,0,none⟩ = some u) (hu : u.oneCell' = true) (hlen : n ≤ 1000000000) (hBs : B ≤ w.heap.size)
  (hK : ∀ a' cap' w',Hid (w'.ownsRow B 42 1 (.slice (some ⟨a',0,none⟩) (n + 1) cap') (n + 1) (Us ++ [u])) → Hid (∀ (b : Nat) (T : TypeId) (L : List Value),Cel w b T L → T ≠ 42 → Cel w' b T L) → Hid (Below B w w') → K (a.put o.dst (.slice (some ⟨a',0,none⟩) (n + 1) cap')) w') :
  if Region.wanted o (yielded ops a.tmps) = true then Oper.wp Tryz.prog o a w K Q else E := by
 have hw : Region.wanted o (yielded ops a.tmps) = true := by simp [Region.wanted,hgd]
 rw [if_pos hw];obtain ⟨i,hi,hz,hsz,hby⟩ := info_parts Tryz.infoLs12;refine wp_append_lies w s x 52 hop B 42 i (.slice none 0 0) 1 24 Tryz.underlying52 hi hz hsz hby rfl (by omega) v n Us hs h1 ⟨gx,0,none⟩ 1 1 [u] hx rfl ?_ ?_ (by omega) (by unfold maxLen;omega) (by omega) hBs w.heap.size rfl ?_
 ·intro j u' hj
  match j,hj with
  | 0,hj => simp at hj;subst hj;rw [zMB];exact hc
 ·intro u' hu'
  simp at hu';subst hu';exact hu
 ·intro g' cap' w' k1 k2 k3 k4
  refine hK _ _ w' k1 (fun b T L hC hT => zOC hC h1 k2 hT) ?_;refine ⟨k2.os,k2.tape,k2.output,k2.size,fun k hk => k2.block k (by omega) (fun e => ?_)⟩;obtain ⟨_,⟨q,_⟩ | ⟨g1,cap1,cur,q,q3,_⟩⟩ := h1
  ·rw [q] at e;cases e
  ·rw [q] at e
   obtain rfl : k = g1 := by simpa [Value.ownBlock] using e
   omega
theorem zzE {B n b i : Nat} {w : World} {v u : Value} {Us : List Value} {T : TypeId} {L : List Value} (h : w.ownsRow B 42 1 v n Us) (hb : Cel w b T L) (hT2 : T ≠ 42) : (w.setCell ⟨b,i,none⟩ u).ownsRow B 42 1 v n Us := by
 refine zQB h fun g hg hlt => Below.heap_setCell w _ u g fun e => ?_
 have e' : g = b := e;subst e';obtain ⟨q1,⟨q2,q3⟩ | ⟨g',cap,cur,q2,q3,q4,q5⟩⟩ := h
 ·rw [q2] at hg;cases hg
 ·rw [q2] at hg
  simp only [Value.ownBlock,Option.some.injEq] at hg;subst hg;have := q4.symm.trans (show w.heap[_]? = _ from hb);simp only [Option.some.injEq,Obj.cells.injEq] at this;exact hT2 this.2.1.symm
theorem ziG {B n : Nat} {w : World} {v : Value} {Us : List Value} (h : w.ownsRow B 42 1 v n Us) : ∃ a cap,v = .slice a n cap ∧ n ≤ cap := by
 obtain ⟨q1,⟨q2,q3⟩ | ⟨g,cap,cur,q2,q3,q4,q5,q6⟩⟩ := h
 ·exact ⟨none,0,by rw [q2,q3],by omega⟩
 ·exact ⟨_,cap,q2,q5⟩
abbrev cutv (left k g : Nat) : Value := .slice (some ⟨g,left,none⟩) k k
def CoH (w : World) (p N k left n : Nat) (slv : Value) (gs : List Nat) (gk : Nat) (s : Value) (wx : World) : Prop :=
 ∃ (i : Nat) (lv : Value),s = .int .i64 (i : Int) ∧ i ≤ n ∧ gk = n - i ∧ wx.ownsRow (w.heap.size + 3) 42 1 lv i ((gs.take i).map (cutv left k)) ∧ Cel wx w.heap.size 54 (shc p N slv) ∧ Cel wx (w.heap.size + 1) 54 [.int .u64 0,.int .i64 0,.slice none 0 0] ∧ Cel wx (w.heap.size + 2) 54 (shc p k lv) ∧ Below w.heap.size w wx
def zFH (w : World) (p k : Nat) (ls : List (List Int)) (e : Ending) (w' : World) : Prop := ∃ lv,e = .returned (shv p k lv) ∧ Rdl w' lv ls ∧ Below w.heap.size w w'
theorem corner12 {w : World} {slv : Value} {B p N r top left : Nat} {gs0 : List Nat} {m0 : List (List Int)} (hL : Lns B w slv N gs0 m0) (hm : m0.length = r) (hr : r ≤ 64) (hN : N ≤ 1048576) (htop : top ≤ r) (hleft : left ≤ N) (hlr : 0 < r → left < N) :
  Calls Tryz.prog 21 #[shv p N slv,.int .i64 (top : Int),.int .i64 (left : Int)] w (zFH w p (N - left) (zdD top left m0)) := by
 have LS := hid hL;obtain ⟨a0,cap0,rfl,hcap,hform⟩ := hL.form2;rw [hm] at hcap hform LS ⊢;obtain ⟨a2,cap2,hs,hcap2,ha2⟩ := zSF a0 r cap0 top htop hcap hform;obtain ⟨k,hk⟩ : ∃ k,N - left = k := ⟨_,rfl⟩
 have hkk : IntKind.i64.wrap ((N : Int) - (left : Int)) = ((k : Nat) : Int) := by rw [zRA] <;> omega
 have hkk2 := hkk;rw [IntKind.wrap_i64] at hkk2;rw [hk];obtain ⟨n,hn⟩ : ∃ n,r - top = n := ⟨_,rfl⟩
 rw [hn] at hs hcap2 ha2;obtain ⟨W0,hW⟩ : ∃ W0,((w.alloc (shO p N (.slice a0 r cap0))).alloc shz).alloc (shO p k (.slice none 0 0)) = W0 := ⟨_,rfl⟩
 have b0 : Below w.heap.size w W0 := by rw [← hW];exact ((((Below.refl _ _).alloc (Nat.le_refl _) _).alloc (by simp) _).alloc (by simp;omega) _)
 have PM : Hid (Cel W0 w.heap.size 54 (shc p N (.slice a0 r cap0))) := by
  unfold Hid;rw [← hW];exact ((Cel.new w _ _).step (zVA _ _).1).step (zVA _ _).1
 have PZ : Hid (Cel W0 (w.heap.size + 1) 54 [.int .u64 0,.int .i64 0,.slice none 0 0]) := by
  unfold Hid;rw [← hW];have := (Cel.new (w.alloc (shO p N (.slice a0 r cap0))) 54 [.int .u64 0,.int .i64 0,.slice none 0 0]).step (zVA _ (shO p k (.slice none 0 0))).1
  simpa using this
 have PS : Hid (Cel W0 (w.heap.size + 2) 54 (shc p k (.slice none 0 0))) := by
  unfold Hid;rw [← hW];have := Cel.new ((w.alloc (shO p N (.slice a0 r cap0))).alloc shz) 54 (shc p k (.slice none 0 0))
  simpa using this
 have HGL : Hid (gs0.length = r) := by unfold Hid;rw [← hm];exact hL.2.2.1
 have H0 : Hid (CoH w p N k left n (.slice a0 r cap0) (gs0.drop top) n (.int .i64 0) W0) := ⟨0,_,rfl,Nat.zero_le _,rfl,World.ownsRow_nil _ _ _ _,PM.out,PZ.out,PS.out,b0⟩
 have HM0 := hid hm;have HLR := hid hlr;have HA2 := hid ha2;have HNN := hid hn;have HKK := hid hk;have y1 := (Cel.new w 54 (shc p N (.slice a0 r cap0))).step (zVA _ shz).1;have x0 := y1.at (i := 0) rfl;have x1 := y1.at (i := 1) rfl;have z2 := PM.out.at (i := 2) rfl;rw [← hW] at z2;have EW := hid hW;clear b0 hW hL hm hform hlr PM PZ PS y1 hn ha2 hk;go_enter Tryz.func21,Tryz.ntmps21;go_wp2_with fail;rw [EW.out];clear EW x0 x1 z2
 go_loopg [22] n (fun gk s22 wx => CoH w p N k left n (.slice a0 r cap0) (gs0.drop top) gk s22 wx)
 case atStart => exact H0.out
 case round =>
  clear H0;obtain ⟨i,lv,rfl,hin,hgk,hln,hmm,hz0,hs0,hG⟩ := hrel;have LN := hid hln;have PM := hid hmm;have PZ := hid hz0;have PS := hid hs0;have G := hid hG;have HG := hid hgk;obtain ⟨la,lcap,rfl,-⟩ := ziG hln;clear hln hmm hz0 hs0 hG hgk
  by_cases hlt : i < n
  ·have hlt' : (i : Int) < (n : Int) := by omega
   obtain ⟨L,e1,e2⟩ := HA2.out (by omega);subst e1;subst e2;have hti : top + i < r := by have := HNN.out;omega
   obtain ⟨gi,q1,q2,q3,q4⟩ := LS.out.blk (i := top + i) (by rw [HM0.out];exact hti);have LSW := hid (LS.out.now G.out);have k0 := (LSW.out.line q1).1;have HGI : Hid ((gs0.drop top).take i ++ [gi] = (gs0.drop top).take (i + 1)) := by
    unfold Hid;have e : (gs0.drop top)[i]? = some gi := by rw [List.getElem?_drop];exact q1
    obtain ⟨h1,h2⟩ := List.getElem?_eq_some_iff.1 e;rw [List.take_succ_eq_append_getElem h1,h2]
   have hlN : left < N := HLR.out (by omega);have hcs : ∀ wx,(Instr.slice 42 (rowv N gi) (some (.int .i64 (left : Int))) none none).run Tryz.prog wx = .ok (cutv left k gi) wx := fun wx => by
    have i1 : (0 : Int) ≤ (left : Int) := by omega
    have i2 : (left : Int) ≤ (N : Int) := by omega
    have i3 : N ≠ left := by omega
    have i4 := HKK.out;subst i4;go_simp
   have hw := zkA (i := i) (by omega);have s2 := PS.out.at (i := 2) rfl;have HMM : Hid (n - (i + 1) < gk) := by unfold Hid;rw [HG.out];omega
   have HB1 : Hid (w.heap.size + 3 ≤ wr.heap.size) := by unfold Hid;have := PS.out.blk;omega
   clear HG q1 q2 q3 q4 LSW;go_wp2_with fail;have KB : Hid (∀ w',Below wr.heap.size wr w' → w'.cell? ⟨w.heap.size + 2,2,none⟩ = some (.slice la i lcap)) := fun w' h => cnow h s2
   refine zDA (fun w' => w'.cell? ⟨w.heap.size + 2,2,none⟩ = some (.slice la i lcap)) 6 (by kernel_rfl) ?_;obtain ⟨D1,hD⟩ : ∃ D1,wr.drew = D1 := ⟨_,rfl⟩
   have GB : Hid (Below wr.heap.size wr D1) := by unfold Hid;rw [← hD];exact (Below.refl _ _).drew
   rw [hD];clear hD;refine zAA (i := 0) (oi := ⟨some 26,.fieldAddr 54 (.tmp 7) 2,0, "sheet.go:68",#[],none⟩) (v := (.pointer (some ⟨(w.heap.size + 2),2,none⟩))) rfl (by kernel_rfl) (fun _ _ _ h => h) (Or.inl ⟨by rfl,?_⟩) (KB.out _ GB.out) ?_
   ·intro w hSw;(try dsimp only at hSw);go_simp
   simp only [Act.put,sIb,sC0,sC1];refine zAA (i := 1) (oi := ⟨some 27,.load 52 (.tmp 26),52, "sheet.go:68",#[⟨0,.data⟩],none⟩) (v := (.slice la i lcap)) rfl (by kernel_rfl) (fun _ _ _ h => h) (Or.inl ⟨by rfl,?_⟩) (KB.out _ GB.out) ?_
   ·intro w hSw;(try dsimp only at hSw);go_simp
   simp only [Act.put,sIb,sC0,sC1];refine zAA (i := 2) (oi := ⟨some 28,.move (.tmp 9),42, "sheet.go:68",#[],none⟩) (v := (rowv N gi)) rfl (by kernel_rfl) (fun _ _ _ h => h) (Or.inl ⟨by rfl,?_⟩) (KB.out _ GB.out) ?_
   ·intro w hSw;(try dsimp only at hSw);go_simp
   simp only [Act.put,sIb,sC0,sC1];refine zAA (i := 3) (oi := ⟨some 29,.move (.tmp 2),3, "sheet.go:68",#[],none⟩) (v := (.int .i64 (left : Int))) rfl (by kernel_rfl) (fun _ _ _ h => h) (Or.inl ⟨by rfl,?_⟩) (KB.out _ GB.out) ?_
   ·intro w hSw;(try dsimp only at hSw);go_simp
   simp only [Act.put,sIb,sC0,sC1];refine zAA (i := 4) (oi := ⟨some 30,.slice 42 (.tmp 28) (some (.tmp 29)) none none,42, "sheet.go:68",#[⟨2,.data⟩,⟨3,.data⟩],none⟩) (v := (cutv left k gi)) rfl (by kernel_rfl) (fun _ _ _ h => h) (Or.inl ⟨by rfl,?_⟩) (KB.out _ GB.out) ?_
   ·intro w hSw;(try dsimp only at hSw);go_simp
   simp only [Act.put,sIb,sC0,sC1];refine zCA (i := 5) (o := ⟨some 31,.buildSlice 52 1 #[(0,.tmp 30)],52, "sheet.go:68",#[⟨4,.data⟩],none⟩) (by kernel_rfl) rfl (fun K hK => ?_);go_simp;obtain ⟨V2,hW⟩ : ∃ V2,D1.alloc (.cells #[cutv left k gi] 42) = V2 := ⟨_,rfl⟩
   obtain ⟨b,sz2⟩ := zVA D1 (.cells #[cutv left k gi] 42);rw [hW] at b sz2;replace GB := hid (below_step GB.out b);have CB : Hid (Cel V2 D1.heap.size 42 [cutv left k gi]) := by unfold Hid;rw [← hW];exact Cel.new _ _ _
   rw [hW];clear hW b;refine hK.out _ _ (fun _ => KB.out _ GB.out) ?_;clear hK
   try simp only [Act.put]
   refine zCA (i := 6) (o := ⟨some 32,.call { callee := .builtin .append,args := #[.tmp 27,.tmp 31],argTypes := #[52,52] },52, "sheet.go:68",#[⟨1,.data⟩,⟨5,.data⟩],none⟩) (by kernel_rfl) rfl (fun K hK => ?_);have LN2 := hid (zQB LN.out fun b _ hlt => GB.out.block b hlt);have q0 := CB.out.at (i := 0) rfl;refine step_append_sl _ rfl (.tmp 27) (.tmp 31) rfl (w.heap.size + 3) i (.slice la i lcap) (((gs0.drop top).take i).map (cutv left k)) (cutv left k gi) rfl LN2.out D1.heap.size rfl q0 rfl (by omega) (by have := GB.out.size;have := HB1.out;omega) ?_;intro a9 cap9 w9 LN9 KC9 BB9;have e9 : ((gs0.drop top).take i).map (cutv left k) ++ [cutv left k gi] = ((gs0.drop top).take (i + 1)).map (cutv left k) := by rw [← HGI.out];simp
   rw [e9] at LN9;have PM9 := hid (KC9.out _ _ _ (PM.out.step GB.out) (by decide));have PZ9 := hid (KC9.out _ _ _ (PZ.out.step GB.out) (by decide));have PS9 := hid (KC9.out _ _ _ (PS.out.step GB.out) (by decide));have G9 : Hid (Below w.heap.size w w9) := by
    unfold Hid;exact (below_step G.out GB.out).trans (BB9.out.mono (by omega))
   have r2 := PS9.out.at (i := 2) rfl;have f2 := PS9.out.fz 2;have HN1 : Hid (CoH w p N k left n (.slice (some ⟨L,0,none⟩) r cap0) (gs0.drop top) (n - (i + 1)) (.int .i64 ((i + 1 : Nat) : Int)) (w9.setCell ⟨w.heap.size + 2,2,none⟩ (.slice (some ⟨a9,0,none⟩) (i + 1) cap9))) :=
    ⟨i + 1,_,rfl,by omega,rfl,zzE LN9.out PS9.out (by decide),PM9.out.ne (by omega),PZ9.out.ne (by omega),PS9.out.set 2 _,bset G9.out (by omega)⟩
   clear LN LN2 LN9 PM PM9 PZ PZ9 PS PS9 KC9 BB9 G G9 GB KB CB HGI e9 s2 q0 hs HB1 k0 hcs;refine hK.out _ _ (fun h => absurd h (by decide)) ?_;clear hK
   try simp only [Act.put]
   refine zCA (i := 7) (o := ⟨some 33,.fieldAddr 54 (.tmp 7) 2,0, "sheet.go:68",#[⟨0,.phase⟩,⟨1,.phase⟩,⟨2,.phase⟩,⟨3,.phase⟩,⟨4,.phase⟩,⟨5,.phase⟩,⟨6,.phase⟩],none⟩) (by kernel_rfl) rfl (fun K hK => ?_);go_simp;refine hK.out _ _ (fun h => absurd h (by decide)) ?_;clear hK
   try simp only [Act.put]
   refine zCA (i := 8) (o := ⟨none,.store 52 (.tmp 33) (.tmp 32),0, "sheet.go:68",#[⟨7,.data⟩,⟨6,.data⟩,⟨6,.chain⟩,⟨0,.phase⟩,⟨1,.phase⟩,⟨2,.phase⟩,⟨3,.phase⟩,⟨4,.phase⟩,⟨5,.phase⟩,⟨6,.phase⟩],none⟩) (by kernel_rfl) rfl (fun K hK => ?_);go_simp;refine hK.out _ _ (fun h => absurd h (by decide)) ?_;clear hK
   try simp only [Act.put]
   refine zFA (by kernel_rfl) ?_ _;go_wp2_with fail;go_roundg (n - (i + 1))
   case rel => exact HN1.out
   case measure => exact HMM.out
  ·have hlt' : ¬ (i : Int) < (n : Int) := by omega
   obtain rfl : i = n := by omega
   have x0 := PS.out.at (i := 0) rfl;have x1 := PS.out.at (i := 1) rfl;have x2 := PS.out.at (i := 2) rfl;have y0 := PZ.out.at (i := 0) rfl;have y1 := PZ.out.at (i := 1) rfl;have y2 := PZ.out.at (i := 2) rfl;have g0 := PZ.out.fz 0;have g1 := PZ.out.fz 1;have g2 := PZ.out.fz 2;have hcl : (zdD top left m0).length = i := by unfold zdD;rw [List.length_map,List.length_drop,HM0.out];exact HNN.out
   have FIN : Hid (zFH w p k (zdD top left m0) (.returned (shv p k (.slice la i lcap))) (put3 wr (w.heap.size + 1) (.int .u64 (p : Int)) (.int .i64 (k : Int)) (.slice la i lcap))) := by
    refine ⟨_,rfl,?_,zgA G.out (by omega) _ _ _⟩;have O2 := zzE (i := 2) (u := .slice la i lcap) (zzE (i := 1) (u := .int .i64 (k : Int)) (zzE (i := 0) (u := .int .u64 (p : Int)) LN.out PZ.out (by decide)) (PZ.out.set 0 _) (by decide)) ((PZ.out.set 0 _).set 1 _) (by decide);have B2 : Below w.heap.size w (put3 wr (w.heap.size + 1) (.int .u64 (p : Int)) (.int .i64 (k : Int)) (.slice la i lcap)) := zgA G.out (by omega) _ _ _;obtain ⟨X,hX⟩ : ∃ X,put3 wr (w.heap.size + 1) (.int .u64 (p : Int)) (.int .i64 (k : Int)) (.slice la i lcap) = X := ⟨_,rfl⟩
    have LSX := LS.out.now B2;have O3 : X.ownsRow (w.heap.size + 3) 42 1 (.slice la i lcap) i (((gs0.drop top).take i).map (cutv left k)) := by rw [← hX];exact O2
    rw [hX] at LSX ⊢;obtain ⟨a9,c9,e9,hc9⟩ := ziG O3;simp only [Value.slice.injEq,true_and] at e9;refine ⟨la,lcap,by rw [hcl],by rw [hcl];have := e9.2;omega,by rw [hcl];have := HNN.out;omega,?_⟩
    by_cases hz : i = 0
    ·exact .inl (List.eq_nil_of_length_eq_zero (hcl.trans hz))
    ·have O4 := O3
     obtain ⟨q1,⟨q2,q3⟩ | ⟨g,cp,cur,q2,q3,q4,q5,q6⟩⟩ := O3
     ·exact absurd q3 hz
     ·simp only [Value.slice.injEq] at q2
      obtain ⟨rfl,-,-⟩ := q2;refine .inr ⟨g,0,rfl,(Array.getElem?_eq_some_iff.1 q4).1,fun j xs hj => ?_⟩;have hj' : j < i := by have := (List.getElem?_eq_some_iff.1 hj).1;rw [hcl] at this;exact this
      have hti : top + j < r := by have := HNN.out;omega
      obtain ⟨gj,e1,e2,e3,e4⟩ := LSX.blk (i := top + j) (by rw [HM0.out];exact hti);have ec := World.ownsRow.cellAt O4 j (by omega);have eu : (((gs0.drop top).take i).map (cutv left k))[j]? = some (cutv left k gj) := by
       rw [List.getElem?_map,List.getElem?_take,if_pos hj',List.getElem?_drop,e1];rfl
      refine ⟨cutv left k gj,by rw [Nat.zero_add,ec,eu],?_⟩;have ex : xs = (rowE m0 (top + j)).drop left := by
       unfold zdD at hj;rw [List.getElem?_map,List.getElem?_drop] at hj;unfold rowE;rw [List.getD_eq_getElem?_getD];rw [List.getElem?_eq_getElem (by rw [HM0.out];exact hti)] at hj ⊢;simp at hj ⊢;exact hj.symm
      have hxl : xs.length = k := by rw [ex,List.length_drop,e4];exact HKK.out
      refine ⟨gj,left,k,by rw [hxl],by omega,e3.lt,fun t ht => ?_⟩;have hb : left + t < (rowE m0 (top + j)).length := by rw [hxl] at ht;rw [e4];have := HKK.out;omega
      have := (Row.nil12.2 e3).word (i := left + t) hb;rw [this]
      congr 2
      subst ex;rw [List.getElem_drop]
   have PF := hid (PZ.out.put3 (.int .u64 (p : Int)) (.int .i64 (k : Int)) (.slice la i lcap));clear LN PM PZ PS G HG hcl;go_wp2;exact bodyPost_ret (zXI Tryz.results21 PF.out _ (by rfl)) rfl FIN.out
end Go.Proofs.YtkklldokdnfkgaaGreat
