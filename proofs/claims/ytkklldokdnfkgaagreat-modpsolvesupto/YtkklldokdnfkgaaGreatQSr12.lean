import Derived.Test.YtkklldokdnfkgaaGreatQVm12
import Derived.Test.YtkklldokdnfkgaaGreatQCf12ToRf12
import Derived.Test.YtkklldokdnfkgaaGreatQRm12ToTailL
set_option maxRecDepth 100000
set_option maxHeartbeats 6400000
set_option linter.unusedVariables false
set_option linter.unusedSimpArgs false
namespace Go.Proofs.YtkklldokdnfkgaaGreat
open Go.RowKit
theorem Zc.nil12 {w : World} {n : Bool} {a : Option Addr} {l q k : Nat} {z : Int} (h : Zc w (.agg #[.bool n,.slice a l q]) z k) : l = 0 ↔ z = 0 := by
 obtain ⟨m,xs,b,d,e,-,hc,hn,hv,-⟩ := h;simp only [Value.agg.injEq,Array.mk.injEq,List.cons.injEq,Value.bool.injEq,Value.slice.injEq,and_true] at e;obtain ⟨rfl,rfl,rfl,rfl⟩ := e
 constructor
 ·intro h0
  have := List.eq_nil_of_length_eq_zero h0;subst this;rw [← hv];simp [iv,val]
 ·intro h0
  subst h0;have h0 : val xs = 0 := by
   cases n
   ·simpa [iv] using hv
   ·simp only [iv,if_true] at hv;omega
  rw [zuA hc h0];rfl
theorem zgI {n : Int} (h0 : 0 < n) (h1 : n ≤ 18446744073709551615) (w : World) : Calls Tryz.prog 18 #[.int .u64 n] w (zZA w n 1) := by
 obtain ⟨WX,hWX⟩ : ∃ WX,(w.alloc (duo (.bool false) (.slice (some ⟨w.heap.size + 1,0,none⟩) 1 1))).alloc (.cells #[.int .u64 n] 25) = WX := ⟨_,rfl⟩
 obtain ⟨b0,sz0⟩ := zxA w (duo (.bool false) (.slice (some ⟨w.heap.size + 1,0,none⟩) 1 1)) (.cells #[.int .u64 n] 25);rw [hWX] at b0 sz0;have dX : Duo WX w.heap.size (.bool false) (.slice (some ⟨w.heap.size + 1,0,none⟩) 1 1) := by rw [← hWX];exact zBA (zEA rfl) _
 have rX : Row WX (w.heap.size + 1) [.int .u64 n] := by
  have := heap_alloc_new (w.alloc (duo (.bool false) (.slice (some ⟨w.heap.size + 1,0,none⟩) 1 1))) (.cells #[.int .u64 n] 25);rw [hWX] at this
  simpa [Row] using this
 have wX : WF [n] := by
  have := zUC w n ⟨Int.le_of_lt h0,h1⟩;exact this.1
 have eV : iv false [n] = n := by simp [iv,val]
 have FIN : Hid (Zm w.heap.size WX (.agg #[.bool false,.slice (some ⟨w.heap.size + 1,0,none⟩) 1 1]) n 1) :=
  ⟨false,[n],_,_,rfl,⟨wX,.inr ⟨w.heap.size + 1,[],1,by omega,by simp,by simp,.inl rfl,rfl,by simpa [ws] using rX⟩⟩,⟨wX,by simp [wid];omega⟩,fun e => by simp at e,eV,by simp⟩
 have EW := hid hWX;have DX := hid dX;have BX := hid b0;clear rX wX dX eV b0 hWX;go_enter Tryz.func18,Tryz.ntmps18;go_wp2;rw [EW.out];exact bodyPost_ret (zJB Tryz.results18 DX.out _ (by rfl)) rfl ⟨_,rfl,FIN.out,BX.out⟩
theorem zjB (w : World) {ops : Array Oper} {rest : List Oper} {o : Oper} {a : Act} {Q : Exit → Act → World → Prop}
  (hgd : o.guard = none) (s x : Operand) (hop : o.op = .call { callee := .builtin .append,args := #[s,x],argTypes := #[32,32] })
  (v : Value) (pv : List Nat) (t : Nat) (A0 : List Value) (w0 : World) (hs : a.eval s = v) (hP : Pvs (w0.heap.size + 1) w v pv) (gx : Nat) (hx : a.eval x = .slice (some ⟨gx,0,none⟩) 1 1) (hc : w.cell? ⟨gx,0,none⟩ = some (.int .i64 (t : Int))) (hlen : pv.length ≤ 1000000000) (hM : MBV w0 w A0)
  (hK : ∀ a' cap' w',Hid (Pvs (w0.heap.size + 1) w' (.slice a' (pv.length + 1) cap') (pv ++ [t])) → Hid (MBV w0 w' A0) → wpList Tryz.prog ops Q rest (a.put o.dst (.slice a' (pv.length + 1) cap')) w') :
  wpList Tryz.prog ops Q (o :: rest) a w := by
 obtain ⟨i,hi,hz,hsz,hby⟩ := info_parts Tryz.infoI12;have hBs : w0.heap.size + 1 ≤ w.heap.size := hM.1.blk;refine wpList_append_lies w hgd s x 32 hop (w0.heap.size + 1) 3 i (.int .i64 0) 1 8 Tryz.underlying32 hi hz hsz hby rfl (by omega) v pv.length _ hs hP ⟨gx,0,none⟩ 1 1 [.int .i64 (t : Int)] hx rfl ?_ ?_ (by omega) (by unfold maxLen;omega) (by omega) hBs w.heap.size rfl ?_
 ·intro j u' hj
  match j,hj with
  | 0,hj => simp at hj;subst hj;rw [zMB];exact hc
 ·intro u' hu'
  simp at hu';subst hu'
  rfl
 ·intro g' cap' w' k1 k2 k3 k4
  refine hK _ _ w' ?_ ⟨zOC hM.1 hP k2 (by decide),hM.2.trans ?_⟩
  ·unfold Hid Pvs
   rw [List.length_append,List.length_cons,List.length_nil,List.map_append];exact k1
  ·refine ⟨k2.os,k2.tape,k2.output,k2.size,fun k hk => k2.block k (by omega) (fun e => ?_)⟩
   obtain ⟨_,⟨q,_⟩ | ⟨g1,cap1,cur,q,q3,_⟩⟩ := hP
   ·rw [q] at e;cases e
   ·rw [q] at e
    obtain rfl : k = g1 := by simpa [Value.ownBlock] using e
    omega
theorem Pvs.at12 {B : Nat} {w : World} {v : Value} {pv : List Nat} (h : Pvs B w v pv) {t : Nat} (ht : t < pv.length) : ∃ g cap,v = .slice (some ⟨g,0,none⟩) pv.length cap ∧ w.cell? ⟨g,t,none⟩ = some (.int .i64 (pv.getD t 0 : Nat)) := by
 obtain ⟨q1,⟨q2,q3⟩ | ⟨g,cap,cur,q2,q3,q4,q5,q6⟩⟩ := h
 ·omega
 ·refine ⟨g,cap,q2,?_⟩
  have h1 : w.ownsRow B 3 1 (.slice (some ⟨g,0,none⟩) pv.length cap) pv.length (pv.map fun (a : Nat) => Value.int .i64 (a : Int)) := ⟨q1,.inr ⟨g,cap,cur,rfl,q3,q4,q5,q6⟩⟩
  rw [h1.cellAt t (by omega)];simp [ht]
theorem Pvs.ty12 {B : Nat} {w w' : World} {v : Value} {pv : List Nat} (h : Pvs B w v pv) (ht : Ty 44 w w') : Pvs B w' v pv := zQB h fun b hb hlt => by
 obtain ⟨q1,⟨q2,q3⟩ | ⟨g,cap,cur,q2,q3,q4,q5,q6⟩⟩ := h
 ·rw [q2] at hb;cases hb
 ·rw [q2] at hb
  simp only [Value.ownBlock,Option.some.injEq] at hb;subst hb;exact (ht.2 _ _ _ _ q4 (by decide)).trans q4.symm
def LpH (L T : Nat) (W : World) (gk : Nat) (s : Value) (wx : World) : Prop := ∃ j : Nat,s = .int .i64 (j : Int) ∧ L ≤ j ∧ j ≤ T ∧ gk = T - j ∧ wx = W
def SrI (w : World) (r : Nat) (pv : List Nat) (A0 : List Value) (gk : Nat) (s4 s5 : Value) (wx : World) : Prop :=
 ∃ i : Nat,s5 = .int .i64 (i : Int) ∧ i ≤ r ∧ i ≤ pv.length ∧ gk = r - i ∧ Pvs (w.heap.size + 1) wx s4 (pv.take i) ∧ MBV w wx A0
def SrT (w : World) (r : Nat) (pi : List Nat) (v4 : Value) (A0 : List Value) (gk : Nat) (s8 : Value) (wx : World) : Prop :=
 ∃ t : Nat,s8 = .int .i64 (t : Int) ∧ t ≤ r ∧ gk = r - t ∧ Pvs (w.heap.size + 1) wx v4 pi ∧ MBV w wx A0
def zMG (w : World) (pv : List Nat) (e : Ending) (w' : World) : Prop := ∃ u,e = .returned (.tuple #[u,.bool true]) ∧ Pvs (w.heap.size + 1) w' u pv ∧ Below w.heap.size w w'
theorem cell_row12 {c k : Nat} (hc : 0 < c) : k / c * c + k % c = k := by rw [Nat.mul_comm];exact Nat.div_add_mod k c
theorem MBV.box {w x : World} {A0 : List Value} {b : Nat} {p q : Value} (h : MBV w x A0) (d : Duo x b p q) (hb : w.heap.size < b) (u u' : Value) : MBV w ((x.setCell ⟨b,0,none⟩ u).setCell ⟨b,1,none⟩ u') A0 := h.ty (d.ty12 u u') (bset (bset h.2 (by omega)) (by omega))
theorem Pvs.box {B : Nat} {w : World} {v : Value} {pv : List Nat} {b : Nat} {p q : Value} (h : Pvs B w v pv) (d : Duo w b p q) (u u' : Value) : Pvs B ((w.setCell ⟨b,0,none⟩ u).setCell ⟨b,1,none⟩ u') v pv := h.ty12 (d.ty12 u u')
theorem stairs12 {w : World} {va : Value} {r c : Nat} {ms : List (List Int)} {pv : List Nat} {kk : Nat} {zs : List Int} (ha : Mc w va r c zs kk) (hz : ∀ i j,i < r → j < c → zs.getD (i * c + j) 0 = ent ms i j) (hR : Rz12 r c ms pv) :
  Calls Tryz.prog 8 #[va] w (zMG w pv) := by
 obtain ⟨ata,pa,rfl,pa1,pa2,pa3,hr,hc⟩ := ha;have hrc : r * c ≤ 64 * 64 := Nat.mul_le_mul hr hc;obtain ⟨N,hN⟩ : ∃ N,r * c = N := ⟨_,rfl⟩
 have HNN := hid hN;have HAA : Hid (∀ wx,Below w.heap.size w wx → ∀ t,t < N → ∃ b off cap n a l q,ata = .slice (some ⟨b,off,none⟩) N cap ∧ wx.cell? ⟨b,off + t * 2,none⟩ = some (.bool n) ∧ wx.cell? ⟨b,off + t * 2 + 1,none⟩ = some (.slice a l q) ∧ Zc wx (.agg #[.bool n,.slice a l q]) (zs.getD t 0) kk) := fun wx h t ht => by
  obtain ⟨b,off,cap,n,a,l,q,h1,h2,h3,-⟩ := (pa1.now h).isI12 (pa2.now h).zis (t := t) (by rw [pa3,hN];exact ht);refine ⟨b,off,cap,n,a,l,q,by rw [h1,pa3,hN],h2,h3,?_⟩;have hp : pa[t]? = some (pa[t]'(by have := pa2.1;omega)) := List.getElem?_eq_getElem (by have := pa2.1;omega);have hq : zs[t]? = some (zs[t]'(by omega)) := List.getElem?_eq_getElem (by omega);have h6 := (pa2.now h).2 t _ _ hp hq;subst h1;have h7 := (pa1.now h).at hp;rw [h2] at h7;rw [h3] at h7;simp only [Option.some.injEq] at h7;rw [← h7.1,← h7.2] at h6;have : zs.getD t 0 = zs[t]'(by omega) := by simp [show t < zs.length by omega]
  rw [this];exact h6
 obtain ⟨aa,ca,rfl,-,-,-,-⟩ := pa1.form;have hpl : pa.length = N := by rw [pa2.1,pa3,hN]
 rw [hN] at hrc;rw [hpl] at HAA ⊢;have HR := hid hR;have HZ := hid hz;obtain ⟨W0,hW⟩ : ∃ W0,w.alloc (matO r c (.slice aa N ca)) = W0 := ⟨_,rfl⟩
 obtain ⟨b0,sz0⟩ := alo1 w (matO r c (.slice aa N ca));rw [hW] at b0 sz0;have PA : Hid (Cel W0 w.heap.size 24 (matc r c (.slice aa N ca))) := by unfold Hid;rw [← hW];exact Cel.new w _ _
 have H0 : Hid (SrI w r pv (matc r c (.slice aa N ca)) r (.slice none 0 0) (.int .i64 0) W0) := ⟨0,rfl,Nat.zero_le _,Nat.zero_le _,by omega,by rw [List.take_zero];exact Pvs.nil _ _,PA.out,b0⟩
 have EW := hid hW;clear pa1 pa2 pa3 hpl b0 sz0 hW hN PA hR hz;go_enter Tryz.func8,Tryz.ntmps8;go_wp2_with fail;rw [EW.out];clear EW
 go_loopg [4,5] r (fun gk s4 s5 wx => SrI w r pv (matc r c (.slice aa N ca)) gk s4 s5 wx)
 case atStart => exact H0.out
 case round =>
  clear H0;obtain ⟨i,rfl,hir,hip,hg,hpv,hmb⟩ := hrel;have PV := hid hpv;have MBx := hid hmb;have HG := hid hg;clear hpv hmb hg;have x0 := MBx.out.1.at (i := 0) rfl;have htl : (pv.take i).length = i := by rw [List.length_take];omega
  obtain ⟨p4,c4,rfl,h4⟩ := PV.out.form;rw [htl] at PV h4 ⊢;have HTL := hid htl;clear htl
  by_cases hlt : i < r
  ·have hlt' : (i : Int) < (r : Int) := by omega
   have hw := zkA (i := i) (by omega);have HMM : Hid (r - (i + 1) < gk) := by unfold Hid;rw [HG.out];omega
   obtain ⟨T,hT⟩ : ∃ T,(if i < pv.length then pv.getD i 0 else c) = T := ⟨_,rfl⟩
   have hTc : T ≤ c := by
    rw [← hT];split
    ·exact Nat.le_of_lt (HR.out.lt i (by assumption))
    ·omega
   have HTZ : Hid (∀ j,j < T → zs.getD (i * c + j) 0 = 0) := fun j hj => by
    rw [HZ.out i j hlt (by omega)];rw [← hT] at hj
    split at hj
    ·exact HR.out.low i j (by assumption) hj
    ·exact HR.out.zer i j (by omega) hlt (by omega)
   have HT := hid hT;clear hT HG;go_wp2_with fail
   go_loopg [6] T (fun gk2 s6 wx => LpH 0 T wr gk2 s6 wx)
   case atStart => exact ⟨0,rfl,Nat.le_refl _,Nat.zero_le _,by omega,rfl⟩
   case round =>
    clear x0;obtain ⟨j,rfl,-,hjT,hg2,rfl⟩ := hrel;have x1 := MBx.out.1.at (i := 1) rfl;have x2 := MBx.out.1.at (i := 2) rfl;have hw2 := zkA (i := j) (by omega);have k2 := zGC (i := i) (c := c) (by omega) hc
    by_cases hlt2 : j < T
    ·have hjc : j < c := by omega
     have hjc' : (j : Int) < (c : Int) := by omega
     have hp1 : i * c + j < N := by rw [← HNN.out];exact zJC hlt hjc
     have HMM2 : Hid (T - (j + 1) < gk) := by unfold Hid;omega
     obtain ⟨b1,o1,c1,n1,a1,l1,d1,e1,u0,u1,z1⟩ := HAA.out _ MBx.out.2 (i * c + j) hp1;simp only [Value.slice.injEq] at e1;obtain ⟨rfl,-,rfl⟩ := e1;obtain rfl : l1 = 0 := z1.nil12.2 (HTZ.out j hlt2);have k4 : IntKind.i64.wrap (((i * c : Nat) : Int) + (j : Int)) = ((i * c + j : Nat) : Int) := by rw [zRA] <;> omega
     obtain ⟨q2,hq2⟩ : ∃ q2,i * c = q2 := ⟨_,rfl⟩
     rw [hq2] at hp1 k2 k4 u1;obtain ⟨t2,ht2⟩ : ∃ t2,q2 + j = t2 := ⟨_,rfl⟩
     rw [ht2] at hp1 k4 u1;have hp2' : (t2 : Int) < (N : Int) := by omega
     have k2' := k2;have k4' := k4;rw [IntKind.wrap_i64] at k2' k4';clear z1 hq2 ht2 hg2 u0 PV;go_wp2_with fail;go_roundg (T - (j + 1))
     case rel => exact ⟨j + 1,rfl,Nat.zero_le _,by omega,rfl,rfl⟩
     case measure => exact HMM2.out
    ·obtain rfl : j = T := by omega
     clear hlt2 hjT HTZ
     by_cases hpi : i < pv.length
     ·have hjv : pv.getD i 0 = j := by rw [← HT.out,if_pos hpi]
      have hjc : j < c := by rw [← hjv];exact HR.out.lt i hpi
      have hjc' : (j : Int) < (c : Int) := by omega
      have hp1 : i * c + j < N := by rw [← HNN.out];exact zJC hlt hjc
      have hone : ∀ t,t < r → zs.getD (t * c + j) 0 = if t = i then 1 else 0 := fun t ht => by rw [HZ.out t j ht hjc,← hjv];exact HR.out.one i t hpi ht
      have HONE := hid hone;obtain ⟨b1,o1,c1,n1,a1,l1,d1,e1,u0,u1,z1⟩ := HAA.out _ MBx.out.2 (i * c + j) hp1;simp only [Value.slice.injEq] at e1;obtain ⟨rfl,-,rfl⟩ := e1;have hl1 : l1 ≠ 0 := fun e => by
       have h1 := z1.nil12.1 e;rw [hone i hlt,if_pos rfl] at h1;omega
      have ql : ((l1 : Int) == 0) = false := by
       have : ¬ (l1 : Int) = 0 := by omega
       simpa using this
      have qj : ((j : Int) == (c : Int)) = false := by
       have : ¬ (j : Int) = (c : Int) := by omega
       simpa using this
      have k4 : IntKind.i64.wrap (((i * c : Nat) : Int) + (j : Int)) = ((i * c + j : Nat) : Int) := by rw [zRA] <;> omega
      obtain ⟨q2,hq2⟩ : ∃ q2,i * c = q2 := ⟨_,rfl⟩
      rw [hq2] at hp1 k2 k4 u1;obtain ⟨t2,ht2⟩ : ∃ t2,q2 + j = t2 := ⟨_,rfl⟩
      rw [ht2] at hp1 k4 u1;have hp2' : (t2 : Int) < (N : Int) := by omega
      have k2' := k2;have k4' := k4;rw [IntKind.wrap_i64] at k2' k4';have H3 : Hid (SrT w r (pv.take i) (.slice p4 i c4) (matc r c (.slice (some ⟨b1,o1,none⟩) N ca)) r (.int .i64 0) wr) := ⟨0,rfl,Nat.zero_le _,by omega,PV.out,MBx.out⟩
      have HJV := hid hjv;clear z1 hq2 ht2 hg2 u0 hjv hone HT
      as_aux_lemma =>
      have LP : Hid (i = 0 ∨ 0 < i) := by unfold Hid;omega
      rcases LP.out with hi0 | hi0
      ·have hi1 : ¬ 0 < i := by omega
       have hi1' : ¬ (0 : Int) < (i : Int) := by omega
       clear PV MBx LP hi0;go_wp2_with fail
       go_loopg [8] r (fun gk3 s8 wx => SrT w r (pv.take i) (.slice p4 i c4) (matc r c (.slice (some ⟨b1,o1,none⟩) N ca)) gk3 s8 wx)
       case atStart => exact H3.out
       case round =>
        clear H3;obtain ⟨t,rfl,htr,hg2,hpv,hmb⟩ := hrel;have PV := hid hpv;have MBx := hid hmb;have HG := hid hg2;clear hpv hmb hg2;have x0 := MBx.out.1.at (i := 0) rfl
        by_cases hlt3 : t < r
        ·have hlt3' : (t : Int) < (r : Int) := by omega
         have hw3 := zkA (i := t) (by omega);have HMM3 : Hid (r - (t + 1) < gk) := by unfold Hid;rw [HG.out];omega
         obtain ⟨X1,hX⟩ : ∃ X1,wr.alloc zbox = X1 := ⟨_,rfl⟩
         obtain ⟨bX,szX⟩ := alo1 wr zbox;rw [hX] at bX szX;have PX : Hid (Duo X1 wr.heap.size (.bool false) (.slice none 0 0)) := by unfold Hid;rw [← hX];exact Duo.new wr _ _
         obtain ⟨bx,hbx⟩ : ∃ bx,wr.heap.size = bx := ⟨_,rfl⟩
         have HGX : Hid (w.heap.size < bx) := by unfold Hid;rw [← hbx];exact MBx.out.1.blk
         rw [hbx] at PX;have PV1 := hid (PV.out.now bX);have MB1 := hid (MBx.out.step bX);have EX := hid hX;have HBX := hid hbx;clear bX szX hX hbx PV MBx HG
         by_cases hti : t = i
         ·have qti : ((t : Int) == (i : Int)) = true := by rw [hti];simp
          have HOF := hid (zgI (n := 1) (by omega) (by omega) X1);go_wp2_with fail;rw [EX.out,HBX.out];refine HOF.out.mono ?_;rintro e w1 ⟨rr,rfl,m1,b1'⟩;have PV2 := hid (PV1.out.now b1');have MB2 := hid (MB1.out.step b1');have PX2 := hid (PX.out.step b1');have M1 := hid (m1.mono (Nat.zero_le _));obtain ⟨nr,xr,ar,cr,rfl⟩ := m1.parts;have f0 := PX2.out.c0;have f1 := PX2.out.c1;have f2 := PX2.out.fz 0;have f3 := PX2.out.fz 1;obtain ⟨Y,hY⟩ : ∃ Y,(w1.setCell ⟨bx,0,none⟩ (.bool nr)).setCell ⟨bx,1,none⟩ (.slice ar xr.length cr) = Y := ⟨_,rfl⟩
          have PV3 : Hid (Pvs (w.heap.size + 1) Y (.slice p4 i c4) (pv.take i)) := by unfold Hid;rw [← hY];exact PV2.out.box PX2.out _ _
          have MB3 : Hid (MBV w Y (matc r c (.slice (some ⟨b1,o1,none⟩) N ca))) := by unfold Hid;rw [← hY];exact MB2.out.box PX2.out (by have := HGX.out;omega) _ _
          have PX3 : Hid (Duo Y bx (.bool nr) (.slice ar xr.length cr)) := by unfold Hid;rw [← hY];exact PX2.out.set _ _
          have ZX : Hid (Zc Y (.agg #[.bool nr,.slice ar xr.length cr]) (zs.getD (t * c + j) 0) 1) := by
           unfold Hid;rw [HONE.out t hlt3,if_pos hti,← hY];exact (M1.out.box PX2.out _ _).zc
          have EY := hid hY;clear hti HOF b1' m1 hY PV1 MB1 PX PV2 MB2 PX2 M1 EX HBX x0;go_wp2_with fail;rw [EY.out];clear EY f0 f1 f2 f3 qti;have hp3 : t * c + j < N := by rw [← HNN.out];exact zJC hlt3 hjc
          obtain ⟨b2,o2,c2,n2,a2,l2,d2,e2,v0,v1,z2⟩ := HAA.out _ MB3.out.2 (t * c + j) hp3;simp only [Value.slice.injEq,Option.some.injEq,Addr.mk.injEq,and_true] at e2;obtain ⟨⟨rfl,rfl⟩,-,rfl⟩ := e2;have HS : Hid (∀ w',Below Y.heap.size Y w' → Calls Tryz.prog 23 #[.agg #[.bool n2,.slice a2 l2 d2],(.agg #[.bool nr,.slice ar xr.length cr])] w' fun e w'' => e = .returned (.bool true) ∧ Below w'.heap.size w' w'') := fun w' h => zCC (z2.now h) (ZX.out.now h) rfl
          have k2 := zGC (i := t) (c := c) (by omega) hc;have k4 : IntKind.i64.wrap (((t * c : Nat) : Int) + (j : Int)) = ((t * c + j : Nat) : Int) := by rw [zRA] <;> omega
          obtain ⟨q3,hq3⟩ : ∃ q3,t * c = q3 := ⟨_,rfl⟩
          rw [hq3] at hp3 k2 k4 v0 v1;obtain ⟨t3,ht3⟩ : ∃ t3,q3 + j = t3 := ⟨_,rfl⟩
          rw [ht3] at hp3 k4 v0 v1;have hp3' : (t3 : Int) < (N : Int) := by omega
          have k2' := k2;have k4' := k4;rw [IntKind.wrap_i64] at k2' k4';have y1 := MB3.out.1.at (i := 1) rfl;have y2 := MB3.out.1.at (i := 2) rfl;have s0 := PX3.out.c0;have s1 := PX3.out.c1;clear z2 ZX hq3 ht3;go_wp2_with fail;have KB : Hid (∀ w',Below Y.heap.size Y w' → w'.cell? ⟨w.heap.size,1,none⟩ = some (.int .i64 (c : Int)) ∧ w'.cell? ⟨w.heap.size,2,none⟩ = some (.slice (some ⟨b1,o1,none⟩) N ca) ∧ w'.cell? ⟨b1,o1 + t3 * 2,none⟩ = some (.bool n2) ∧ w'.cell? ⟨b1,o1 + t3 * 2 + 1,none⟩ = some (.slice a2 l2 d2) ∧ w'.cell? ⟨bx,0,none⟩ = some (.bool nr) ∧ w'.cell? ⟨bx,1,none⟩ = some (.slice ar xr.length cr)) := fun w' h => ⟨cnow h y1,cnow h y2,cnow h v0,cnow h v1,cnow h s0,cnow h s1⟩
          refine zDA (fun w' => w'.cell? ⟨w.heap.size,1,none⟩ = some (.int .i64 (c : Int)) ∧ w'.cell? ⟨w.heap.size,2,none⟩ = some (.slice (some ⟨b1,o1,none⟩) N ca) ∧ w'.cell? ⟨b1,o1 + t3 * 2,none⟩ = some (.bool n2) ∧ w'.cell? ⟨b1,o1 + t3 * 2 + 1,none⟩ = some (.slice a2 l2 d2) ∧ w'.cell? ⟨bx,0,none⟩ = some (.bool nr) ∧ w'.cell? ⟨bx,1,none⟩ = some (.slice ar xr.length cr)) 12 (by kernel_rfl) ?_;obtain ⟨D1,hD⟩ : ∃ D1,Y.drew = D1 := ⟨_,rfl⟩
          have GB : Hid (Below Y.heap.size Y D1) := by unfold Hid;rw [← hD];exact (Below.refl _ _).drew
          rw [hD];clear hD;have GBs := GB;refine zAA (i := 0) (oi := ⟨some 85,.fieldAddr 24 (.tmp 1) 2,0, "plain.go:191",#[],none⟩) (v := (.pointer (some ⟨w.heap.size,2,none⟩))) rfl (by kernel_rfl) (fun _ _ _ h => h) (Or.inl ⟨by rfl,?_⟩) (KB.out _ GB.out) ?_
          ·intro w hSw;(try dsimp only at hSw);go_simp
          simp only [Act.put,sIb,sC0,sC1];refine zAA (i := 1) (oi := ⟨some 86,.load 22 (.tmp 85),22, "plain.go:191",#[⟨0,.data⟩],none⟩) (v := (.slice (some ⟨b1,o1,none⟩) N ca)) rfl (by kernel_rfl) (fun _ _ _ h => h) (Or.inl ⟨by rfl,?_⟩) (KB.out _ GB.out) ?_
          ·intro w hSw;(try dsimp only at hSw);go_simp
          simp only [Act.put,sIb,sC0,sC1];refine zAA (i := 2) (oi := ⟨some 87,.move (.tmp 8),3, "plain.go:191",#[],none⟩) (v := (.int .i64 (t : Int))) rfl (by kernel_rfl) (fun _ _ _ h => h) (Or.inl ⟨by rfl,?_⟩) (KB.out _ GB.out) ?_
          ·intro w hSw;(try dsimp only at hSw);go_simp
          simp only [Act.put,sIb,sC0,sC1];refine zAA (i := 3) (oi := ⟨some 88,.fieldAddr 24 (.tmp 1) 1,0, "plain.go:191",#[],none⟩) (v := (.pointer (some ⟨w.heap.size,1,none⟩))) rfl (by kernel_rfl) (fun _ _ _ h => h) (Or.inl ⟨by rfl,?_⟩) (KB.out _ GB.out) ?_
          ·intro w hSw;(try dsimp only at hSw);go_simp
          simp only [Act.put,sIb,sC0,sC1];refine zAA (i := 4) (oi := ⟨some 89,.load 3 (.tmp 88),3, "plain.go:191",#[⟨3,.data⟩],none⟩) (v := (.int .i64 (c : Int))) rfl (by kernel_rfl) (fun _ _ _ h => h) (Or.inl ⟨by rfl,?_⟩) (KB.out _ GB.out) ?_
          ·intro w hSw;(try dsimp only at hSw);go_simp
          simp only [Act.put,sIb,sC0,sC1];refine zAA (i := 5) (oi := ⟨some 90,.binOp .mul 3 (.tmp 87) (.tmp 89) 3,3, "plain.go:191",#[⟨2,.data⟩,⟨4,.data⟩],none⟩) (v := (.int .i64 (q3 : Int))) rfl (by kernel_rfl) (fun _ _ _ h => h) (Or.inl ⟨by rfl,?_⟩) (KB.out _ GB.out) ?_
          ·intro w hSw;(try dsimp only at hSw);go_simp
          simp only [Act.put,sIb,sC0,sC1];refine zAA (i := 6) (oi := ⟨some 91,.move (.tmp 6),3, "plain.go:191",#[],none⟩) (v := (.int .i64 (j : Int))) rfl (by kernel_rfl) (fun _ _ _ h => h) (Or.inl ⟨by rfl,?_⟩) (KB.out _ GB.out) ?_
          ·intro w hSw;(try dsimp only at hSw);go_simp
          simp only [Act.put,sIb,sC0,sC1];refine zAA (i := 7) (oi := ⟨some 92,.binOp .add 3 (.tmp 90) (.tmp 91) 3,3, "plain.go:191",#[⟨5,.data⟩,⟨6,.data⟩],none⟩) (v := (.int .i64 (t3 : Int))) rfl (by kernel_rfl) (fun _ _ _ h => h) (Or.inl ⟨by rfl,?_⟩) (KB.out _ GB.out) ?_
          ·intro w hSw;(try dsimp only at hSw);go_simp
          simp only [Act.put,sIb,sC0,sC1];refine zAA (i := 8) (oi := ⟨some 93,.indexAddr 22 (.tmp 86) (.tmp 92),0, "plain.go:191",#[⟨1,.data⟩,⟨7,.data⟩],none⟩) (v := (.pointer (some ⟨b1,o1 + t3 * 2,none⟩))) rfl (by kernel_rfl) (fun _ _ _ h => h) (Or.inl ⟨by rfl,?_⟩) (KB.out _ GB.out) ?_
          ·intro w hSw;(try dsimp only at hSw);go_simp
          simp only [Act.put,sIb,sC0,sC1];refine zAA (i := 9) (oi := ⟨some 94,.load 44 (.tmp 93),44, "plain.go:191",#[⟨8,.data⟩],none⟩) (v := (.agg #[.bool n2,.slice a2 l2 d2])) rfl (by kernel_rfl) (fun _ _ _ h => h) (Or.inl ⟨by rfl,?_⟩) (KB.out _ GB.out) ?_
          ·intro w hSw;(try dsimp only at hSw);go_simp
          simp only [Act.put,sIb,sC0,sC1];refine zAA (i := 10) (oi := ⟨some 95,.load 44 (.tmp 9),44, "plain.go:191",#[],none⟩) (v := (.agg #[.bool nr,.slice ar xr.length cr])) rfl (by kernel_rfl) (fun _ _ _ h => h) (Or.inl ⟨by rfl,?_⟩) (KB.out _ GB.out) ?_
          ·intro w hSw;(try dsimp only at hSw);go_simp
          simp only [Act.put,sIb,sC0,sC1];refine zCA (i := 11) (o := ⟨some 96,.call { callee := .value (.func 23),args := #[.tmp 94,.tmp 95],argTypes := #[44,44] },4, "plain.go:191",#[⟨9,.data⟩,⟨10,.data⟩],none⟩) (by kernel_rfl) rfl (fun K hK => ?_);go_simp;go_at_call 23;refine (HS.out _ GB.out).mono ?_;rintro e w2 ⟨rfl,b⟩;have lz2 := (show Below _ _ _ from b).size;replace GB := hid (below_step GB.out b);have PV4 := hid (PV3.out.now (below_step (w0 := Y) GBs.out b));have MB4 := hid (MB3.out.step (below_step (w0 := Y) GBs.out b));clear b;refine hK.out _ _ (fun _ => KB.out _ GB.out) ?_;clear hK;refine zCA (i := 12) (o := ⟨some 97,.unOp .not 4 (.tmp 96),4, "plain.go:191",#[⟨11,.data⟩],none⟩) (by kernel_rfl) rfl (fun K hK => ?_);go_simp;refine hK.out _ _ (fun h => absurd h (by decide)) ?_;clear hK
          try simp only [Act.put]
          refine zFA (by kernel_rfl) ?_ _;have HN1 : Hid (SrT w r (pv.take i) (.slice p4 i c4) (matc r c (.slice (some ⟨b1,o1,none⟩) N ca)) (r - (t + 1)) (.int .i64 ((t + 1 : Nat) : Int)) w2) := ⟨t + 1,rfl,by omega,rfl,PV4.out,MB4.out⟩
          clear HS PV3 MB3 PX3 PV4 MB4 GBs GB KB;go_wp2_with fail;go_roundg (r - (t + 1))
          case rel => exact HN1.out
          case measure => exact HMM3.out
         ·have qti : ((t : Int) == (i : Int)) = false := by
           have : ¬ (t : Int) = (i : Int) := by omega
           simpa using this
          obtain ⟨Y,hY⟩ : ∃ Y,X1 = Y := ⟨_,rfl⟩
          rw [hY] at PV1 MB1 PX EX;obtain ⟨xr,hxr⟩ : ∃ xr : List Int,xr = [] := ⟨_,rfl⟩
          have PV3 := PV1;have MB3 := MB1;have PX3 := PX;have ZX : Hid (Zc Y (.agg #[.bool false,.slice none 0 0]) (zs.getD (t * c + j) 0) 1) := by
           unfold Hid;rw [HONE.out t hlt3,if_neg hti];exact (zmD Y 1).zc
          clear PV1 MB1 PX hY hxr;go_wp2_with fail;rw [EX.out,HBX.out];clear EX HBX x0 qti;have hp3 : t * c + j < N := by rw [← HNN.out];exact zJC hlt3 hjc
          obtain ⟨b2,o2,c2,n2,a2,l2,d2,e2,v0,v1,z2⟩ := HAA.out _ MB3.out.2 (t * c + j) hp3;simp only [Value.slice.injEq,Option.some.injEq,Addr.mk.injEq,and_true] at e2;obtain ⟨⟨rfl,rfl⟩,-,rfl⟩ := e2;have HS : Hid (∀ w',Below Y.heap.size Y w' → Calls Tryz.prog 23 #[.agg #[.bool n2,.slice a2 l2 d2],(.agg #[.bool false,.slice none 0 0])] w' fun e w'' => e = .returned (.bool true) ∧ Below w'.heap.size w' w'') := fun w' h => zCC (z2.now h) (ZX.out.now h) rfl
          have k2 := zGC (i := t) (c := c) (by omega) hc;have k4 : IntKind.i64.wrap (((t * c : Nat) : Int) + (j : Int)) = ((t * c + j : Nat) : Int) := by rw [zRA] <;> omega
          obtain ⟨q3,hq3⟩ : ∃ q3,t * c = q3 := ⟨_,rfl⟩
          rw [hq3] at hp3 k2 k4 v0 v1;obtain ⟨t3,ht3⟩ : ∃ t3,q3 + j = t3 := ⟨_,rfl⟩
          rw [ht3] at hp3 k4 v0 v1;have hp3' : (t3 : Int) < (N : Int) := by omega
          have k2' := k2;have k4' := k4;rw [IntKind.wrap_i64] at k2' k4';have y1 := MB3.out.1.at (i := 1) rfl;have y2 := MB3.out.1.at (i := 2) rfl;have s0 := PX3.out.c0;have s1 := PX3.out.c1;clear z2 ZX hq3 ht3;go_wp2_with fail;have KB : Hid (∀ w',Below Y.heap.size Y w' → w'.cell? ⟨w.heap.size,1,none⟩ = some (.int .i64 (c : Int)) ∧ w'.cell? ⟨w.heap.size,2,none⟩ = some (.slice (some ⟨b1,o1,none⟩) N ca) ∧ w'.cell? ⟨b1,o1 + t3 * 2,none⟩ = some (.bool n2) ∧ w'.cell? ⟨b1,o1 + t3 * 2 + 1,none⟩ = some (.slice a2 l2 d2) ∧ w'.cell? ⟨bx,0,none⟩ = some (.bool false) ∧ w'.cell? ⟨bx,1,none⟩ = some (.slice none 0 0)) := fun w' h => ⟨cnow h y1,cnow h y2,cnow h v0,cnow h v1,cnow h s0,cnow h s1⟩
          refine zDA (fun w' => w'.cell? ⟨w.heap.size,1,none⟩ = some (.int .i64 (c : Int)) ∧ w'.cell? ⟨w.heap.size,2,none⟩ = some (.slice (some ⟨b1,o1,none⟩) N ca) ∧ w'.cell? ⟨b1,o1 + t3 * 2,none⟩ = some (.bool n2) ∧ w'.cell? ⟨b1,o1 + t3 * 2 + 1,none⟩ = some (.slice a2 l2 d2) ∧ w'.cell? ⟨bx,0,none⟩ = some (.bool false) ∧ w'.cell? ⟨bx,1,none⟩ = some (.slice none 0 0)) 12 (by kernel_rfl) ?_;obtain ⟨D1,hD⟩ : ∃ D1,Y.drew = D1 := ⟨_,rfl⟩
          have GB : Hid (Below Y.heap.size Y D1) := by unfold Hid;rw [← hD];exact (Below.refl _ _).drew
          rw [hD];clear hD;have GBs := GB;refine zAA (i := 0) (oi := ⟨some 85,.fieldAddr 24 (.tmp 1) 2,0, "plain.go:191",#[],none⟩) (v := (.pointer (some ⟨w.heap.size,2,none⟩))) rfl (by kernel_rfl) (fun _ _ _ h => h) (Or.inl ⟨by rfl,?_⟩) (KB.out _ GB.out) ?_
          ·intro w hSw;(try dsimp only at hSw);go_simp
          simp only [Act.put,sIb,sC0,sC1];refine zAA (i := 1) (oi := ⟨some 86,.load 22 (.tmp 85),22, "plain.go:191",#[⟨0,.data⟩],none⟩) (v := (.slice (some ⟨b1,o1,none⟩) N ca)) rfl (by kernel_rfl) (fun _ _ _ h => h) (Or.inl ⟨by rfl,?_⟩) (KB.out _ GB.out) ?_
          ·intro w hSw;(try dsimp only at hSw);go_simp
          simp only [Act.put,sIb,sC0,sC1];refine zAA (i := 2) (oi := ⟨some 87,.move (.tmp 8),3, "plain.go:191",#[],none⟩) (v := (.int .i64 (t : Int))) rfl (by kernel_rfl) (fun _ _ _ h => h) (Or.inl ⟨by rfl,?_⟩) (KB.out _ GB.out) ?_
          ·intro w hSw;(try dsimp only at hSw);go_simp
          simp only [Act.put,sIb,sC0,sC1];refine zAA (i := 3) (oi := ⟨some 88,.fieldAddr 24 (.tmp 1) 1,0, "plain.go:191",#[],none⟩) (v := (.pointer (some ⟨w.heap.size,1,none⟩))) rfl (by kernel_rfl) (fun _ _ _ h => h) (Or.inl ⟨by rfl,?_⟩) (KB.out _ GB.out) ?_
          ·intro w hSw;(try dsimp only at hSw);go_simp
          simp only [Act.put,sIb,sC0,sC1];refine zAA (i := 4) (oi := ⟨some 89,.load 3 (.tmp 88),3, "plain.go:191",#[⟨3,.data⟩],none⟩) (v := (.int .i64 (c : Int))) rfl (by kernel_rfl) (fun _ _ _ h => h) (Or.inl ⟨by rfl,?_⟩) (KB.out _ GB.out) ?_
          ·intro w hSw;(try dsimp only at hSw);go_simp
          simp only [Act.put,sIb,sC0,sC1];refine zAA (i := 5) (oi := ⟨some 90,.binOp .mul 3 (.tmp 87) (.tmp 89) 3,3, "plain.go:191",#[⟨2,.data⟩,⟨4,.data⟩],none⟩) (v := (.int .i64 (q3 : Int))) rfl (by kernel_rfl) (fun _ _ _ h => h) (Or.inl ⟨by rfl,?_⟩) (KB.out _ GB.out) ?_
          ·intro w hSw;(try dsimp only at hSw);go_simp
          simp only [Act.put,sIb,sC0,sC1];refine zAA (i := 6) (oi := ⟨some 91,.move (.tmp 6),3, "plain.go:191",#[],none⟩) (v := (.int .i64 (j : Int))) rfl (by kernel_rfl) (fun _ _ _ h => h) (Or.inl ⟨by rfl,?_⟩) (KB.out _ GB.out) ?_
          ·intro w hSw;(try dsimp only at hSw);go_simp
          simp only [Act.put,sIb,sC0,sC1];refine zAA (i := 7) (oi := ⟨some 92,.binOp .add 3 (.tmp 90) (.tmp 91) 3,3, "plain.go:191",#[⟨5,.data⟩,⟨6,.data⟩],none⟩) (v := (.int .i64 (t3 : Int))) rfl (by kernel_rfl) (fun _ _ _ h => h) (Or.inl ⟨by rfl,?_⟩) (KB.out _ GB.out) ?_
          ·intro w hSw;(try dsimp only at hSw);go_simp
          simp only [Act.put,sIb,sC0,sC1];refine zAA (i := 8) (oi := ⟨some 93,.indexAddr 22 (.tmp 86) (.tmp 92),0, "plain.go:191",#[⟨1,.data⟩,⟨7,.data⟩],none⟩) (v := (.pointer (some ⟨b1,o1 + t3 * 2,none⟩))) rfl (by kernel_rfl) (fun _ _ _ h => h) (Or.inl ⟨by rfl,?_⟩) (KB.out _ GB.out) ?_
          ·intro w hSw;(try dsimp only at hSw);go_simp
          simp only [Act.put,sIb,sC0,sC1];refine zAA (i := 9) (oi := ⟨some 94,.load 44 (.tmp 93),44, "plain.go:191",#[⟨8,.data⟩],none⟩) (v := (.agg #[.bool n2,.slice a2 l2 d2])) rfl (by kernel_rfl) (fun _ _ _ h => h) (Or.inl ⟨by rfl,?_⟩) (KB.out _ GB.out) ?_
          ·intro w hSw;(try dsimp only at hSw);go_simp
          simp only [Act.put,sIb,sC0,sC1];refine zAA (i := 10) (oi := ⟨some 95,.load 44 (.tmp 9),44, "plain.go:191",#[],none⟩) (v := (.agg #[.bool false,.slice none 0 0])) rfl (by kernel_rfl) (fun _ _ _ h => h) (Or.inl ⟨by rfl,?_⟩) (KB.out _ GB.out) ?_
          ·intro w hSw;(try dsimp only at hSw);go_simp
          simp only [Act.put,sIb,sC0,sC1];refine zCA (i := 11) (o := ⟨some 96,.call { callee := .value (.func 23),args := #[.tmp 94,.tmp 95],argTypes := #[44,44] },4, "plain.go:191",#[⟨9,.data⟩,⟨10,.data⟩],none⟩) (by kernel_rfl) rfl (fun K hK => ?_);go_simp;go_at_call 23;refine (HS.out _ GB.out).mono ?_;rintro e w2 ⟨rfl,b⟩;have lz2 := (show Below _ _ _ from b).size;replace GB := hid (below_step GB.out b);have PV4 := hid (PV3.out.now (below_step (w0 := Y) GBs.out b));have MB4 := hid (MB3.out.step (below_step (w0 := Y) GBs.out b));clear b;refine hK.out _ _ (fun _ => KB.out _ GB.out) ?_;clear hK;refine zCA (i := 12) (o := ⟨some 97,.unOp .not 4 (.tmp 96),4, "plain.go:191",#[⟨11,.data⟩],none⟩) (by kernel_rfl) rfl (fun K hK => ?_);go_simp;refine hK.out _ _ (fun h => absurd h (by decide)) ?_;clear hK
          try simp only [Act.put]
          refine zFA (by kernel_rfl) ?_ _;have HN1 : Hid (SrT w r (pv.take i) (.slice p4 i c4) (matc r c (.slice (some ⟨b1,o1,none⟩) N ca)) (r - (t + 1)) (.int .i64 ((t + 1 : Nat) : Int)) w2) := ⟨t + 1,rfl,by omega,rfl,PV4.out,MB4.out⟩
          clear HS PV3 MB3 PX3 PV4 MB4 GBs GB KB;go_wp2_with fail;go_roundg (r - (t + 1))
          case rel => exact HN1.out
          case measure => exact HMM3.out
        ·have hlt3' : ¬ (t : Int) < (r : Int) := by omega
         obtain ⟨Y,hY⟩ : ∃ Y,wr.alloc (.cells #[.int .i64 (j : Int)] 3) = Y := ⟨_,rfl⟩
         obtain ⟨bY,szY⟩ := alo1 wr (.cells #[.int .i64 (j : Int)] 3);rw [hY] at bY szY;have PY : Hid (Cel Y wr.heap.size 3 [.int .i64 (j : Int)]) := by unfold Hid;rw [← hY];exact Cel.new wr _ _
         have y0 := PY.out.at (i := 0) rfl;have PV1 := hid (PV.out.now bY);have MB1 := hid (MBx.out.step bY);have EY := hid hY;clear bY szY hY PV MBx HG PY;go_wp2_with (at_builtin;rw [EY.out];refine zjB Y rfl (.tmp 98) (.tmp 100) rfl (.slice p4 i c4) (pv.take i) j (matc r c (.slice (some ⟨b1,o1,none⟩) N ca)) w rfl PV1.out wr.heap.size rfl y0 (by have := HTL.out;omega) MB1.out ?_)
         intro a9 cap9 w9 PV9 MB9;have HN1 : Hid (SrI w r pv (matc r c (.slice (some ⟨b1,o1,none⟩) N ca)) (r - (i + 1)) (.slice a9 (i + 1) cap9) (.int .i64 ((i + 1 : Nat) : Int)) w9) := by
          refine ⟨i + 1,rfl,by omega,by omega,rfl,?_,MB9.out⟩;have e1 : pv.take (i + 1) = pv.take i ++ [j] := by
           rw [List.take_add_one,← HJV.out];simp [hpi]
          rw [e1];exact PV9.out
         clear PV9 MB9 PV1 MB1 y0 EY;go_wp2_with fail;go_roundg (r - (i + 1))
         case rel => exact HN1.out
         case measure => exact HMM.out
      ·have hi0' : (0 : Int) < (i : Int) := by omega
       obtain ⟨i1,hi1⟩ : ∃ i1,i - 1 = i1 := ⟨_,rfl⟩
       have kw1 : IntKind.i64.wrap ((i : Int) - 1) = (i1 : Int) := by rw [zRA] <;> omega
       have kw1' := kw1;rw [IntKind.wrap_i64] at kw1';obtain ⟨g4,cap4,e4,y4⟩ := PV.out.at12 (t := i1) (by rw [HTL.out];omega);simp only [Value.slice.injEq] at e4;obtain ⟨rfl,-,rfl⟩ := e4;obtain ⟨x4,hx4⟩ : ∃ x4,(pv.take i).getD i1 0 = x4 := ⟨_,rfl⟩
       have hlx : x4 < j := by
        rw [← HJV.out,← hx4];have h1 : (pv.take i).getD i1 0 = pv.getD i1 0 := by simp [List.getElem?_take,show i1 < i by omega]
        rw [h1];exact HR.out.inc i1 i (by omega) hpi
       rw [hx4] at y4;have hge : ¬ j ≤ x4 := by omega
       have hge' : ¬ (j : Int) ≤ (x4 : Int) := by omega
       have hi1l : (i1 : Int) < (i : Int) := by omega
       clear PV MBx LP hx4 hlx hi1;go_wp2_with fail
       go_loopg [8] r (fun gk3 s8 wx => SrT w r (pv.take i) (.slice (some ⟨g4,0,none⟩) i c4) (matc r c (.slice (some ⟨b1,o1,none⟩) N ca)) gk3 s8 wx)
       case atStart => exact H3.out
       case round =>
        clear H3;obtain ⟨t,rfl,htr,hg2,hpv,hmb⟩ := hrel;have PV := hid hpv;have MBx := hid hmb;have HG := hid hg2;clear hpv hmb hg2;have x0 := MBx.out.1.at (i := 0) rfl
        by_cases hlt3 : t < r
        ·have hlt3' : (t : Int) < (r : Int) := by omega
         have hw3 := zkA (i := t) (by omega);have HMM3 : Hid (r - (t + 1) < gk) := by unfold Hid;rw [HG.out];omega
         obtain ⟨X1,hX⟩ : ∃ X1,wr.alloc zbox = X1 := ⟨_,rfl⟩
         obtain ⟨bX,szX⟩ := alo1 wr zbox;rw [hX] at bX szX;have PX : Hid (Duo X1 wr.heap.size (.bool false) (.slice none 0 0)) := by unfold Hid;rw [← hX];exact Duo.new wr _ _
         obtain ⟨bx,hbx⟩ : ∃ bx,wr.heap.size = bx := ⟨_,rfl⟩
         have HGX : Hid (w.heap.size < bx) := by unfold Hid;rw [← hbx];exact MBx.out.1.blk
         rw [hbx] at PX;have PV1 := hid (PV.out.now bX);have MB1 := hid (MBx.out.step bX);have EX := hid hX;have HBX := hid hbx;clear bX szX hX hbx PV MBx HG
         by_cases hti : t = i
         ·have qti : ((t : Int) == (i : Int)) = true := by rw [hti];simp
          have HOF := hid (zgI (n := 1) (by omega) (by omega) X1);go_wp2_with fail;rw [EX.out,HBX.out];refine HOF.out.mono ?_;rintro e w1 ⟨rr,rfl,m1,b1'⟩;have PV2 := hid (PV1.out.now b1');have MB2 := hid (MB1.out.step b1');have PX2 := hid (PX.out.step b1');have M1 := hid (m1.mono (Nat.zero_le _));obtain ⟨nr,xr,ar,cr,rfl⟩ := m1.parts;have f0 := PX2.out.c0;have f1 := PX2.out.c1;have f2 := PX2.out.fz 0;have f3 := PX2.out.fz 1;obtain ⟨Y,hY⟩ : ∃ Y,(w1.setCell ⟨bx,0,none⟩ (.bool nr)).setCell ⟨bx,1,none⟩ (.slice ar xr.length cr) = Y := ⟨_,rfl⟩
          have PV3 : Hid (Pvs (w.heap.size + 1) Y (.slice (some ⟨g4,0,none⟩) i c4) (pv.take i)) := by unfold Hid;rw [← hY];exact PV2.out.box PX2.out _ _
          have MB3 : Hid (MBV w Y (matc r c (.slice (some ⟨b1,o1,none⟩) N ca))) := by unfold Hid;rw [← hY];exact MB2.out.box PX2.out (by have := HGX.out;omega) _ _
          have PX3 : Hid (Duo Y bx (.bool nr) (.slice ar xr.length cr)) := by unfold Hid;rw [← hY];exact PX2.out.set _ _
          have ZX : Hid (Zc Y (.agg #[.bool nr,.slice ar xr.length cr]) (zs.getD (t * c + j) 0) 1) := by
           unfold Hid;rw [HONE.out t hlt3,if_pos hti,← hY];exact (M1.out.box PX2.out _ _).zc
          have EY := hid hY;clear hti HOF b1' m1 hY PV1 MB1 PX PV2 MB2 PX2 M1 EX HBX x0;go_wp2_with fail;rw [EY.out];clear EY f0 f1 f2 f3 qti;have hp3 : t * c + j < N := by rw [← HNN.out];exact zJC hlt3 hjc
          obtain ⟨b2,o2,c2,n2,a2,l2,d2,e2,v0,v1,z2⟩ := HAA.out _ MB3.out.2 (t * c + j) hp3;simp only [Value.slice.injEq,Option.some.injEq,Addr.mk.injEq,and_true] at e2;obtain ⟨⟨rfl,rfl⟩,-,rfl⟩ := e2;have HS : Hid (∀ w',Below Y.heap.size Y w' → Calls Tryz.prog 23 #[.agg #[.bool n2,.slice a2 l2 d2],(.agg #[.bool nr,.slice ar xr.length cr])] w' fun e w'' => e = .returned (.bool true) ∧ Below w'.heap.size w' w'') := fun w' h => zCC (z2.now h) (ZX.out.now h) rfl
          have k2 := zGC (i := t) (c := c) (by omega) hc;have k4 : IntKind.i64.wrap (((t * c : Nat) : Int) + (j : Int)) = ((t * c + j : Nat) : Int) := by rw [zRA] <;> omega
          obtain ⟨q3,hq3⟩ : ∃ q3,t * c = q3 := ⟨_,rfl⟩
          rw [hq3] at hp3 k2 k4 v0 v1;obtain ⟨t3,ht3⟩ : ∃ t3,q3 + j = t3 := ⟨_,rfl⟩
          rw [ht3] at hp3 k4 v0 v1;have hp3' : (t3 : Int) < (N : Int) := by omega
          have k2' := k2;have k4' := k4;rw [IntKind.wrap_i64] at k2' k4';have y1 := MB3.out.1.at (i := 1) rfl;have y2 := MB3.out.1.at (i := 2) rfl;have s0 := PX3.out.c0;have s1 := PX3.out.c1;clear z2 ZX hq3 ht3;go_wp2_with fail;have KB : Hid (∀ w',Below Y.heap.size Y w' → w'.cell? ⟨w.heap.size,1,none⟩ = some (.int .i64 (c : Int)) ∧ w'.cell? ⟨w.heap.size,2,none⟩ = some (.slice (some ⟨b1,o1,none⟩) N ca) ∧ w'.cell? ⟨b1,o1 + t3 * 2,none⟩ = some (.bool n2) ∧ w'.cell? ⟨b1,o1 + t3 * 2 + 1,none⟩ = some (.slice a2 l2 d2) ∧ w'.cell? ⟨bx,0,none⟩ = some (.bool nr) ∧ w'.cell? ⟨bx,1,none⟩ = some (.slice ar xr.length cr)) := fun w' h => ⟨cnow h y1,cnow h y2,cnow h v0,cnow h v1,cnow h s0,cnow h s1⟩
          refine zDA (fun w' => w'.cell? ⟨w.heap.size,1,none⟩ = some (.int .i64 (c : Int)) ∧ w'.cell? ⟨w.heap.size,2,none⟩ = some (.slice (some ⟨b1,o1,none⟩) N ca) ∧ w'.cell? ⟨b1,o1 + t3 * 2,none⟩ = some (.bool n2) ∧ w'.cell? ⟨b1,o1 + t3 * 2 + 1,none⟩ = some (.slice a2 l2 d2) ∧ w'.cell? ⟨bx,0,none⟩ = some (.bool nr) ∧ w'.cell? ⟨bx,1,none⟩ = some (.slice ar xr.length cr)) 12 (by kernel_rfl) ?_;obtain ⟨D1,hD⟩ : ∃ D1,Y.drew = D1 := ⟨_,rfl⟩
          have GB : Hid (Below Y.heap.size Y D1) := by unfold Hid;rw [← hD];exact (Below.refl _ _).drew
          rw [hD];clear hD;have GBs := GB;refine zAA (i := 0) (oi := ⟨some 85,.fieldAddr 24 (.tmp 1) 2,0, "plain.go:191",#[],none⟩) (v := (.pointer (some ⟨w.heap.size,2,none⟩))) rfl (by kernel_rfl) (fun _ _ _ h => h) (Or.inl ⟨by rfl,?_⟩) (KB.out _ GB.out) ?_
          ·intro w hSw;(try dsimp only at hSw);go_simp
          simp only [Act.put,sIb,sC0,sC1];refine zAA (i := 1) (oi := ⟨some 86,.load 22 (.tmp 85),22, "plain.go:191",#[⟨0,.data⟩],none⟩) (v := (.slice (some ⟨b1,o1,none⟩) N ca)) rfl (by kernel_rfl) (fun _ _ _ h => h) (Or.inl ⟨by rfl,?_⟩) (KB.out _ GB.out) ?_
          ·intro w hSw;(try dsimp only at hSw);go_simp
          simp only [Act.put,sIb,sC0,sC1];refine zAA (i := 2) (oi := ⟨some 87,.move (.tmp 8),3, "plain.go:191",#[],none⟩) (v := (.int .i64 (t : Int))) rfl (by kernel_rfl) (fun _ _ _ h => h) (Or.inl ⟨by rfl,?_⟩) (KB.out _ GB.out) ?_
          ·intro w hSw;(try dsimp only at hSw);go_simp
          simp only [Act.put,sIb,sC0,sC1];refine zAA (i := 3) (oi := ⟨some 88,.fieldAddr 24 (.tmp 1) 1,0, "plain.go:191",#[],none⟩) (v := (.pointer (some ⟨w.heap.size,1,none⟩))) rfl (by kernel_rfl) (fun _ _ _ h => h) (Or.inl ⟨by rfl,?_⟩) (KB.out _ GB.out) ?_
          ·intro w hSw;(try dsimp only at hSw);go_simp
          simp only [Act.put,sIb,sC0,sC1];refine zAA (i := 4) (oi := ⟨some 89,.load 3 (.tmp 88),3, "plain.go:191",#[⟨3,.data⟩],none⟩) (v := (.int .i64 (c : Int))) rfl (by kernel_rfl) (fun _ _ _ h => h) (Or.inl ⟨by rfl,?_⟩) (KB.out _ GB.out) ?_
          ·intro w hSw;(try dsimp only at hSw);go_simp
          simp only [Act.put,sIb,sC0,sC1];refine zAA (i := 5) (oi := ⟨some 90,.binOp .mul 3 (.tmp 87) (.tmp 89) 3,3, "plain.go:191",#[⟨2,.data⟩,⟨4,.data⟩],none⟩) (v := (.int .i64 (q3 : Int))) rfl (by kernel_rfl) (fun _ _ _ h => h) (Or.inl ⟨by rfl,?_⟩) (KB.out _ GB.out) ?_
          ·intro w hSw;(try dsimp only at hSw);go_simp
          simp only [Act.put,sIb,sC0,sC1];refine zAA (i := 6) (oi := ⟨some 91,.move (.tmp 6),3, "plain.go:191",#[],none⟩) (v := (.int .i64 (j : Int))) rfl (by kernel_rfl) (fun _ _ _ h => h) (Or.inl ⟨by rfl,?_⟩) (KB.out _ GB.out) ?_
          ·intro w hSw;(try dsimp only at hSw);go_simp
          simp only [Act.put,sIb,sC0,sC1];refine zAA (i := 7) (oi := ⟨some 92,.binOp .add 3 (.tmp 90) (.tmp 91) 3,3, "plain.go:191",#[⟨5,.data⟩,⟨6,.data⟩],none⟩) (v := (.int .i64 (t3 : Int))) rfl (by kernel_rfl) (fun _ _ _ h => h) (Or.inl ⟨by rfl,?_⟩) (KB.out _ GB.out) ?_
          ·intro w hSw;(try dsimp only at hSw);go_simp
          simp only [Act.put,sIb,sC0,sC1];refine zAA (i := 8) (oi := ⟨some 93,.indexAddr 22 (.tmp 86) (.tmp 92),0, "plain.go:191",#[⟨1,.data⟩,⟨7,.data⟩],none⟩) (v := (.pointer (some ⟨b1,o1 + t3 * 2,none⟩))) rfl (by kernel_rfl) (fun _ _ _ h => h) (Or.inl ⟨by rfl,?_⟩) (KB.out _ GB.out) ?_
          ·intro w hSw;(try dsimp only at hSw);go_simp
          simp only [Act.put,sIb,sC0,sC1];refine zAA (i := 9) (oi := ⟨some 94,.load 44 (.tmp 93),44, "plain.go:191",#[⟨8,.data⟩],none⟩) (v := (.agg #[.bool n2,.slice a2 l2 d2])) rfl (by kernel_rfl) (fun _ _ _ h => h) (Or.inl ⟨by rfl,?_⟩) (KB.out _ GB.out) ?_
          ·intro w hSw;(try dsimp only at hSw);go_simp
          simp only [Act.put,sIb,sC0,sC1];refine zAA (i := 10) (oi := ⟨some 95,.load 44 (.tmp 9),44, "plain.go:191",#[],none⟩) (v := (.agg #[.bool nr,.slice ar xr.length cr])) rfl (by kernel_rfl) (fun _ _ _ h => h) (Or.inl ⟨by rfl,?_⟩) (KB.out _ GB.out) ?_
          ·intro w hSw;(try dsimp only at hSw);go_simp
          simp only [Act.put,sIb,sC0,sC1];refine zCA (i := 11) (o := ⟨some 96,.call { callee := .value (.func 23),args := #[.tmp 94,.tmp 95],argTypes := #[44,44] },4, "plain.go:191",#[⟨9,.data⟩,⟨10,.data⟩],none⟩) (by kernel_rfl) rfl (fun K hK => ?_);go_simp;go_at_call 23;refine (HS.out _ GB.out).mono ?_;rintro e w2 ⟨rfl,b⟩;have lz2 := (show Below _ _ _ from b).size;replace GB := hid (below_step GB.out b);have PV4 := hid (PV3.out.now (below_step (w0 := Y) GBs.out b));have MB4 := hid (MB3.out.step (below_step (w0 := Y) GBs.out b));clear b;refine hK.out _ _ (fun _ => KB.out _ GB.out) ?_;clear hK;refine zCA (i := 12) (o := ⟨some 97,.unOp .not 4 (.tmp 96),4, "plain.go:191",#[⟨11,.data⟩],none⟩) (by kernel_rfl) rfl (fun K hK => ?_);go_simp;refine hK.out _ _ (fun h => absurd h (by decide)) ?_;clear hK
          try simp only [Act.put]
          refine zFA (by kernel_rfl) ?_ _;have HN1 : Hid (SrT w r (pv.take i) (.slice (some ⟨g4,0,none⟩) i c4) (matc r c (.slice (some ⟨b1,o1,none⟩) N ca)) (r - (t + 1)) (.int .i64 ((t + 1 : Nat) : Int)) w2) := ⟨t + 1,rfl,by omega,rfl,PV4.out,MB4.out⟩
          clear HS PV3 MB3 PX3 PV4 MB4 GBs GB KB;go_wp2_with fail;go_roundg (r - (t + 1))
          case rel => exact HN1.out
          case measure => exact HMM3.out
         ·have qti : ((t : Int) == (i : Int)) = false := by
           have : ¬ (t : Int) = (i : Int) := by omega
           simpa using this
          obtain ⟨Y,hY⟩ : ∃ Y,X1 = Y := ⟨_,rfl⟩
          rw [hY] at PV1 MB1 PX EX;obtain ⟨xr,hxr⟩ : ∃ xr : List Int,xr = [] := ⟨_,rfl⟩
          have PV3 := PV1;have MB3 := MB1;have PX3 := PX;have ZX : Hid (Zc Y (.agg #[.bool false,.slice none 0 0]) (zs.getD (t * c + j) 0) 1) := by
           unfold Hid;rw [HONE.out t hlt3,if_neg hti];exact (zmD Y 1).zc
          clear PV1 MB1 PX hY hxr;go_wp2_with fail;rw [EX.out,HBX.out];clear EX HBX x0 qti;have hp3 : t * c + j < N := by rw [← HNN.out];exact zJC hlt3 hjc
          obtain ⟨b2,o2,c2,n2,a2,l2,d2,e2,v0,v1,z2⟩ := HAA.out _ MB3.out.2 (t * c + j) hp3;simp only [Value.slice.injEq,Option.some.injEq,Addr.mk.injEq,and_true] at e2;obtain ⟨⟨rfl,rfl⟩,-,rfl⟩ := e2;have HS : Hid (∀ w',Below Y.heap.size Y w' → Calls Tryz.prog 23 #[.agg #[.bool n2,.slice a2 l2 d2],(.agg #[.bool false,.slice none 0 0])] w' fun e w'' => e = .returned (.bool true) ∧ Below w'.heap.size w' w'') := fun w' h => zCC (z2.now h) (ZX.out.now h) rfl
          have k2 := zGC (i := t) (c := c) (by omega) hc;have k4 : IntKind.i64.wrap (((t * c : Nat) : Int) + (j : Int)) = ((t * c + j : Nat) : Int) := by rw [zRA] <;> omega
          obtain ⟨q3,hq3⟩ : ∃ q3,t * c = q3 := ⟨_,rfl⟩
          rw [hq3] at hp3 k2 k4 v0 v1;obtain ⟨t3,ht3⟩ : ∃ t3,q3 + j = t3 := ⟨_,rfl⟩
          rw [ht3] at hp3 k4 v0 v1;have hp3' : (t3 : Int) < (N : Int) := by omega
          have k2' := k2;have k4' := k4;rw [IntKind.wrap_i64] at k2' k4';have y1 := MB3.out.1.at (i := 1) rfl;have y2 := MB3.out.1.at (i := 2) rfl;have s0 := PX3.out.c0;have s1 := PX3.out.c1;clear z2 ZX hq3 ht3;go_wp2_with fail;have KB : Hid (∀ w',Below Y.heap.size Y w' → w'.cell? ⟨w.heap.size,1,none⟩ = some (.int .i64 (c : Int)) ∧ w'.cell? ⟨w.heap.size,2,none⟩ = some (.slice (some ⟨b1,o1,none⟩) N ca) ∧ w'.cell? ⟨b1,o1 + t3 * 2,none⟩ = some (.bool n2) ∧ w'.cell? ⟨b1,o1 + t3 * 2 + 1,none⟩ = some (.slice a2 l2 d2) ∧ w'.cell? ⟨bx,0,none⟩ = some (.bool false) ∧ w'.cell? ⟨bx,1,none⟩ = some (.slice none 0 0)) := fun w' h => ⟨cnow h y1,cnow h y2,cnow h v0,cnow h v1,cnow h s0,cnow h s1⟩
          refine zDA (fun w' => w'.cell? ⟨w.heap.size,1,none⟩ = some (.int .i64 (c : Int)) ∧ w'.cell? ⟨w.heap.size,2,none⟩ = some (.slice (some ⟨b1,o1,none⟩) N ca) ∧ w'.cell? ⟨b1,o1 + t3 * 2,none⟩ = some (.bool n2) ∧ w'.cell? ⟨b1,o1 + t3 * 2 + 1,none⟩ = some (.slice a2 l2 d2) ∧ w'.cell? ⟨bx,0,none⟩ = some (.bool false) ∧ w'.cell? ⟨bx,1,none⟩ = some (.slice none 0 0)) 12 (by kernel_rfl) ?_;obtain ⟨D1,hD⟩ : ∃ D1,Y.drew = D1 := ⟨_,rfl⟩
          have GB : Hid (Below Y.heap.size Y D1) := by unfold Hid;rw [← hD];exact (Below.refl _ _).drew
          rw [hD];clear hD;have GBs := GB;refine zAA (i := 0) (oi := ⟨some 85,.fieldAddr 24 (.tmp 1) 2,0, "plain.go:191",#[],none⟩) (v := (.pointer (some ⟨w.heap.size,2,none⟩))) rfl (by kernel_rfl) (fun _ _ _ h => h) (Or.inl ⟨by rfl,?_⟩) (KB.out _ GB.out) ?_
          ·intro w hSw;(try dsimp only at hSw);go_simp
          simp only [Act.put,sIb,sC0,sC1];refine zAA (i := 1) (oi := ⟨some 86,.load 22 (.tmp 85),22, "plain.go:191",#[⟨0,.data⟩],none⟩) (v := (.slice (some ⟨b1,o1,none⟩) N ca)) rfl (by kernel_rfl) (fun _ _ _ h => h) (Or.inl ⟨by rfl,?_⟩) (KB.out _ GB.out) ?_
          ·intro w hSw;(try dsimp only at hSw);go_simp
          simp only [Act.put,sIb,sC0,sC1];refine zAA (i := 2) (oi := ⟨some 87,.move (.tmp 8),3, "plain.go:191",#[],none⟩) (v := (.int .i64 (t : Int))) rfl (by kernel_rfl) (fun _ _ _ h => h) (Or.inl ⟨by rfl,?_⟩) (KB.out _ GB.out) ?_
          ·intro w hSw;(try dsimp only at hSw);go_simp
          simp only [Act.put,sIb,sC0,sC1];refine zAA (i := 3) (oi := ⟨some 88,.fieldAddr 24 (.tmp 1) 1,0, "plain.go:191",#[],none⟩) (v := (.pointer (some ⟨w.heap.size,1,none⟩))) rfl (by kernel_rfl) (fun _ _ _ h => h) (Or.inl ⟨by rfl,?_⟩) (KB.out _ GB.out) ?_
          ·intro w hSw;(try dsimp only at hSw);go_simp
          simp only [Act.put,sIb,sC0,sC1];refine zAA (i := 4) (oi := ⟨some 89,.load 3 (.tmp 88),3, "plain.go:191",#[⟨3,.data⟩],none⟩) (v := (.int .i64 (c : Int))) rfl (by kernel_rfl) (fun _ _ _ h => h) (Or.inl ⟨by rfl,?_⟩) (KB.out _ GB.out) ?_
          ·intro w hSw;(try dsimp only at hSw);go_simp
          simp only [Act.put,sIb,sC0,sC1];refine zAA (i := 5) (oi := ⟨some 90,.binOp .mul 3 (.tmp 87) (.tmp 89) 3,3, "plain.go:191",#[⟨2,.data⟩,⟨4,.data⟩],none⟩) (v := (.int .i64 (q3 : Int))) rfl (by kernel_rfl) (fun _ _ _ h => h) (Or.inl ⟨by rfl,?_⟩) (KB.out _ GB.out) ?_
          ·intro w hSw;(try dsimp only at hSw);go_simp
          simp only [Act.put,sIb,sC0,sC1];refine zAA (i := 6) (oi := ⟨some 91,.move (.tmp 6),3, "plain.go:191",#[],none⟩) (v := (.int .i64 (j : Int))) rfl (by kernel_rfl) (fun _ _ _ h => h) (Or.inl ⟨by rfl,?_⟩) (KB.out _ GB.out) ?_
          ·intro w hSw;(try dsimp only at hSw);go_simp
          simp only [Act.put,sIb,sC0,sC1];refine zAA (i := 7) (oi := ⟨some 92,.binOp .add 3 (.tmp 90) (.tmp 91) 3,3, "plain.go:191",#[⟨5,.data⟩,⟨6,.data⟩],none⟩) (v := (.int .i64 (t3 : Int))) rfl (by kernel_rfl) (fun _ _ _ h => h) (Or.inl ⟨by rfl,?_⟩) (KB.out _ GB.out) ?_
          ·intro w hSw;(try dsimp only at hSw);go_simp
          simp only [Act.put,sIb,sC0,sC1];refine zAA (i := 8) (oi := ⟨some 93,.indexAddr 22 (.tmp 86) (.tmp 92),0, "plain.go:191",#[⟨1,.data⟩,⟨7,.data⟩],none⟩) (v := (.pointer (some ⟨b1,o1 + t3 * 2,none⟩))) rfl (by kernel_rfl) (fun _ _ _ h => h) (Or.inl ⟨by rfl,?_⟩) (KB.out _ GB.out) ?_
          ·intro w hSw;(try dsimp only at hSw);go_simp
          simp only [Act.put,sIb,sC0,sC1];refine zAA (i := 9) (oi := ⟨some 94,.load 44 (.tmp 93),44, "plain.go:191",#[⟨8,.data⟩],none⟩) (v := (.agg #[.bool n2,.slice a2 l2 d2])) rfl (by kernel_rfl) (fun _ _ _ h => h) (Or.inl ⟨by rfl,?_⟩) (KB.out _ GB.out) ?_
          ·intro w hSw;(try dsimp only at hSw);go_simp
          simp only [Act.put,sIb,sC0,sC1];refine zAA (i := 10) (oi := ⟨some 95,.load 44 (.tmp 9),44, "plain.go:191",#[],none⟩) (v := (.agg #[.bool false,.slice none 0 0])) rfl (by kernel_rfl) (fun _ _ _ h => h) (Or.inl ⟨by rfl,?_⟩) (KB.out _ GB.out) ?_
          ·intro w hSw;(try dsimp only at hSw);go_simp
          simp only [Act.put,sIb,sC0,sC1];refine zCA (i := 11) (o := ⟨some 96,.call { callee := .value (.func 23),args := #[.tmp 94,.tmp 95],argTypes := #[44,44] },4, "plain.go:191",#[⟨9,.data⟩,⟨10,.data⟩],none⟩) (by kernel_rfl) rfl (fun K hK => ?_);go_simp;go_at_call 23;refine (HS.out _ GB.out).mono ?_;rintro e w2 ⟨rfl,b⟩;have lz2 := (show Below _ _ _ from b).size;replace GB := hid (below_step GB.out b);have PV4 := hid (PV3.out.now (below_step (w0 := Y) GBs.out b));have MB4 := hid (MB3.out.step (below_step (w0 := Y) GBs.out b));clear b;refine hK.out _ _ (fun _ => KB.out _ GB.out) ?_;clear hK;refine zCA (i := 12) (o := ⟨some 97,.unOp .not 4 (.tmp 96),4, "plain.go:191",#[⟨11,.data⟩],none⟩) (by kernel_rfl) rfl (fun K hK => ?_);go_simp;refine hK.out _ _ (fun h => absurd h (by decide)) ?_;clear hK
          try simp only [Act.put]
          refine zFA (by kernel_rfl) ?_ _;have HN1 : Hid (SrT w r (pv.take i) (.slice (some ⟨g4,0,none⟩) i c4) (matc r c (.slice (some ⟨b1,o1,none⟩) N ca)) (r - (t + 1)) (.int .i64 ((t + 1 : Nat) : Int)) w2) := ⟨t + 1,rfl,by omega,rfl,PV4.out,MB4.out⟩
          clear HS PV3 MB3 PX3 PV4 MB4 GBs GB KB;go_wp2_with fail;go_roundg (r - (t + 1))
          case rel => exact HN1.out
          case measure => exact HMM3.out
        ·have hlt3' : ¬ (t : Int) < (r : Int) := by omega
         obtain ⟨Y,hY⟩ : ∃ Y,wr.alloc (.cells #[.int .i64 (j : Int)] 3) = Y := ⟨_,rfl⟩
         obtain ⟨bY,szY⟩ := alo1 wr (.cells #[.int .i64 (j : Int)] 3);rw [hY] at bY szY;have PY : Hid (Cel Y wr.heap.size 3 [.int .i64 (j : Int)]) := by unfold Hid;rw [← hY];exact Cel.new wr _ _
         have y0 := PY.out.at (i := 0) rfl;have PV1 := hid (PV.out.now bY);have MB1 := hid (MBx.out.step bY);have EY := hid hY;clear bY szY hY PV MBx HG PY;go_wp2_with (at_builtin;rw [EY.out];refine zjB Y rfl (.tmp 98) (.tmp 100) rfl (.slice (some ⟨g4,0,none⟩) i c4) (pv.take i) j (matc r c (.slice (some ⟨b1,o1,none⟩) N ca)) w rfl PV1.out wr.heap.size rfl y0 (by have := HTL.out;omega) MB1.out ?_)
         intro a9 cap9 w9 PV9 MB9;have HN1 : Hid (SrI w r pv (matc r c (.slice (some ⟨b1,o1,none⟩) N ca)) (r - (i + 1)) (.slice a9 (i + 1) cap9) (.int .i64 ((i + 1 : Nat) : Int)) w9) := by
          refine ⟨i + 1,rfl,by omega,by omega,rfl,?_,MB9.out⟩;have e1 : pv.take (i + 1) = pv.take i ++ [j] := by
           rw [List.take_add_one,← HJV.out];simp [hpi]
          rw [e1];exact PV9.out
         clear PV9 MB9 PV1 MB1 y0 EY;go_wp2_with fail;go_roundg (r - (i + 1))
         case rel => exact HN1.out
         case measure => exact HMM.out
     ·have hie : pv.length = i := by omega
      obtain rfl : j = c := by rw [← HT.out,if_neg hpi]
      have hjc' : ¬ (j : Int) < (j : Int) := by omega
      have qj : ((j : Int) == (j : Int)) = true := by simp
      obtain ⟨q2,hq2⟩ : ∃ q2,i * j = q2 := ⟨_,rfl⟩
      rw [hq2] at k2;have k2' := k2;rw [IntKind.wrap_i64] at k2';have HQ := hid hq2;have hqN : q2 ≤ N := by rw [← hq2,← HNN.out];exact Nat.mul_le_mul_right _ (by omega)
      have HIE := hid hie;clear hq2 hg2 HT hie;go_wp2_with fail
      go_loopg [7] (N - q2) (fun gk2 s7 wx => LpH q2 N wr gk2 s7 wx)
      case atStart => exact ⟨q2,rfl,Nat.le_refl _,hqN,rfl,rfl⟩
      case round =>
       obtain ⟨k,rfl,hqk,hkN,hg2,rfl⟩ := hrel;have x2 := MBx.out.1.at (i := 2) rfl;have hw3 := zkA (i := k) (by omega)
       by_cases hlt3 : k < N
       ·have hlt3' : (k : Int) < (N : Int) := by omega
        have HMM3 : Hid (N - (k + 1) < gk) := by unfold Hid;omega
        obtain ⟨b1,o1,c1,n1,a1,l1,d1,e1,u0,u1,z1⟩ := HAA.out _ MBx.out.2 k hlt3;simp only [Value.slice.injEq] at e1;obtain ⟨rfl,-,rfl⟩ := e1;have hj0 : 0 < j := Nat.pos_of_ne_zero fun e => by have := HNN.out;rw [e] at this;omega
        have hz0 : zs.getD k 0 = 0 := by
         have h1 : k / j < r := Nat.div_lt_of_lt_mul (by rw [Nat.mul_comm,HNN.out];exact hlt3);have h2 : k % j < j := Nat.mod_lt _ hj0;have h3 : i ≤ k / j := (Nat.le_div_iff_mul_le hj0).2 (by rw [HQ.out];exact hqk);have h4 := HZ.out (k / j) (k % j) h1 h2;rw [cell_row12 hj0] at h4;rw [h4];exact HR.out.zer _ _ (by rw [HIE.out];exact h3) h1 h2
        obtain rfl : l1 = 0 := z1.nil12.2 hz0;clear z1 hz0 hj0 u0 hg2 PV;go_wp2_with fail;go_roundg (N - (k + 1))
        case rel => exact ⟨k + 1,rfl,by omega,by omega,rfl,rfl⟩
        case measure => exact HMM3.out
       ·have hlt3' : ¬ (k : Int) < (N : Int) := by omega
        have FIN : Hid (zMG w pv (.returned (.tuple #[.slice p4 i c4,.bool true])) wr) := ⟨_,rfl,by
         have h := PV.out;have e : pv.take i = pv := by rw [← HIE.out];exact List.take_length
         rw [e] at h;exact h,MBx.out.2⟩
        clear PV MBx hg2;go_wp2;go_ret2;exact FIN.out
  ·have hlt' : ¬ (i : Int) < (r : Int) := by omega
   have hie : pv.length = i := by have := HR.out.len;omega
   have FIN : Hid (zMG w pv (.returned (.tuple #[.slice p4 i c4, .bool true])) wr) := ⟨_, rfl, by
               have h := PV.out;have e : pv.take i = pv := by rw [← hie];exact List.take_length
               rw [e] at h;exact h,MBx.out.2⟩
   clear PV MBx HG hie;go_wp2;go_ret2;exact FIN.out
end Go.Proofs.YtkklldokdnfkgaaGreat
