import Derived.Test.YtfeofdpnhhiclaaGreatQLow19
import Derived.Test.YtfeofdpnhhiclaaGreatQMo19ToIx13
import Derived.Test.YtfeofdpnhhiclaaGreatQMa19
set_option maxRecDepth 100000
set_option maxHeartbeats 6400000
set_option linter.unusedVariables false
set_option linter.unusedSimpArgs false
namespace Go.Proofs.YtfeofdpnhhiclaaGreat
open Go.RowKit Go.Shelf
attribute [local go_sem] Oper.semAt_some
theorem Sh17.more19 {B m n k l : Nat} {w : World} {lv : Value} {gs : Nat → Nat} {L : Nat → Nat → Int} (h : Sh17 B w lv m n gs L k) (hl : k ≤ l) : Sh17 B w lv m n gs L l := ⟨h.1,h.2.1,fun i hi => ⟨(h.2.2 i hi).1,(h.2.2 i hi).2.more hl⟩⟩
theorem zLE : ∀ {ps : List (Value × Value)},(∀ p ∈ ps,IsI p) → ∀ u,u ∈ flat ps → ∀ x,u ≠ .int .u64 x
 | [],_,u,hu,x => by simp [flat] at hu
 | p :: r,h,u,hu,x => by
  simp only [flat,List.mem_cons] at hu;obtain ⟨n,a,l,c,rfl⟩ := h p (by simp);rcases hu with rfl | rfl | hu
  ·simp
  ·simp
  ·exact zLE (fun q hq => h q (by simp [hq])) u hu x
theorem Arr.noW19 {w : World} {g : Nat} {ps : List (Value × Value)} (h : Arr w g ps) (off : Nat) (x : Int) : w.cell? ⟨g,off,none⟩ ≠ some (.int .u64 x) := fun e => by
 have hc := show w.heap[g]? = _ from h.1;simp [World.cell?,hc] at e;exact zLE h.2 _ (List.mem_of_getElem? e) x rfl
theorem Kc.cell19 {X Y : World} (h : Kc X Y) {p : Addr} {v : Value} (e : X.cell? p = some v) : Y.cell? p = some v := by
 obtain ⟨o,q1,q2⟩ := zKC e;exact (World.cell?_of_block ((h.2 _ o q1 q2).trans q1.symm)).trans e
theorem Mc.kc19 {w w' : World} {v : Value} {r c : Nat} {zs : List Int} {k : Nat} (h : Mc w v r c zs k) (hk : Kc w w') : Mc w' v r c zs k := by
 obtain ⟨at_,ps,h1,h2,h3,h4⟩ := h;exact ⟨at_,ps,h1,h2.kept11 hk.1 (fun p u _ _ e => hk.cell19 e),h3.wk hk.wk,h4⟩
def zfG (w : World) (Bt bt : Nat) (nd : Bool) (ad : Option Addr) (ld cd : Nat) (lv : Value) (r c : Nat) (D : Int) (gs : Nat → Nat) (A : Nat → Nat → Int) (k kw Bp Br N : Nat) (s : Nat × List Nat) (W : World) : Prop :=
 ∃ L,Tg19 Bt W bt nd ad ld cd lv c D gs L k kw ∧ Rs19 c D L (Md19 s.2.length c A D) ∧ (∀ x ∈ s.2,x < W.heap.size) ∧ Cel W Bp 80 [.pointer (some ⟨bt,0,none⟩)] ∧ Cel W Br 24 [.int .i64 0,.int .i64 0,.slice none 0 0] ∧ s.2.length ≤ r ∧ Below w.heap.size w W ∧ N ≤ s.1
theorem zfG.own {w : World} {Bt bt ld cd r c k kw Bp Br N B : Nat} {nd : Bool} {ad : Option Addr} {lv : Value} {D : Int} {gs : Nat → Nat} {A : Nat → Nat → Int} (hB : w.heap.size ≤ B) : OwnFrom B (zfG w Bt bt nd ad ld cd lv r c D gs A k kw Bp Br N) := fun s W W' row hs hg hr => by
 obtain ⟨L,h1,h2,h3,h4,h5,h6,h7,h8⟩ := hs;have hk := zQB hg (fun r e => (hr r e).2);exact ⟨L,h1.kc19 hk,h2,fun x hx => Nat.lt_of_lt_of_le (h3 x hx) hk.1,hk.cel h4,hk.cel h5,h6,h7.grown hg h7.size (fun k e => Nat.le_trans hB (hr k e).1),h8⟩
def zrF (w : World) (r c : Nat) (A : Nat → Nat → Int) (D : Int) (kw : Nat) (e : Ending) (w' : World) : Prop :=
 ∃ v H,e = .returned v ∧ Mc w' v c c (zF c c H) kw ∧ Hb19 c H (Md19 r c A D) ∧ Below w.heap.size w w'
theorem Tg19.cell19 {B bt ld cd n k kw i : Nat} {w : World} {nd : Bool} {ad : Option Addr} {lv : Value} {D : Int} {gs : Nat → Nat} {L : Nat → Nat → Int} (h : Tg19 B w bt nd ad ld cd lv n D gs L k kw) (hi : i < n) : ∃ C,w.heap[gs i]? = some (.cells C 27) := by
 obtain ⟨ps,p1,-⟩ := (h.2.2.2.2 i hi).2;exact ⟨_,p1.1⟩
theorem zsC {w : World} {v u : Value} {r c : Nat} {zs : List Int} {z M : Int} {k k1 kw : Nat} (hm : Mx w v r c zs k1) (hd : Zi w u z k) (hz : z ≠ 0) (hMz : (z.natAbs : Int) ≤ M) (hMA : ∀ x ∈ zs,(x.natAbs : Int) ≤ M) (hM : M + 64 * ((z.natAbs : Int) * (z.natAbs : Int)) < pw kw) (hk : 1 ≤ k) (hkw : k ≤ kw) (hkw1 : k1 ≤ kw) (hK : kw ≤ 17179869184) :
  Calls Tryz.prog 29 #[v,u] w (zrF w r c (en c zs) (z.natAbs : Int) kw) := by
 have M0 := hid hm;refine (callsIn_wide (n := 5)).1 ?_;obtain ⟨D,hD⟩ : ∃ D : Int,(z.natAbs : Int) = D := ⟨_,rfl⟩
 have hD0 : 0 < D := by omega
 obtain ⟨aa,ca,rfl,hr,hc⟩ := hm.form;obtain ⟨nz,xz,az,cz,rfl,-,-,-⟩ := id hd;have HZL : Hid (zs.length = r * c) := by obtain ⟨_,_,_,_,_,h,_⟩ := hm;exact h
 obtain ⟨la,hla⟩ : ∃ la,r * c = la := ⟨_,rfl⟩
 rw [hla] at M0 ⊢;obtain ⟨W0,hW⟩ : ∃ W0,((w.alloc (matO r c (.slice aa la ca))).alloc (duo (.bool nz) (.slice az xz.length cz))).alloc mbox = W0 := ⟨_,rfl⟩
 obtain ⟨b0,sz0⟩ := zKB w (matO r c (.slice aa la ca)) (duo (.bool nz) (.slice az xz.length cz)) mbox;rw [hW] at b0 sz0;have pa : Cel W0 w.heap.size 24 (matc r c (.slice aa la ca)) := by
  rw [← hW];exact ((Cel.new w 24 (matc r c (.slice aa la ca))).step ((Below.refl _ _).alloc (Nat.le_refl _) _)).step ((Below.refl _ _).alloc (Nat.le_refl _) _)
 have pd : Duo W0 (w.heap.size + 1) (.bool nz) (.slice az xz.length cz) := by rw [← hW];exact zEA (zGA (by simp)) _
 have PR : Hid (Cel W0 (w.heap.size + 1 + 1) 24 [.int .i64 0,.int .i64 0,.slice none 0 0]) := by
  unfold Hid;rw [← hW];have := Cel.new ((w.alloc (matO r c (.slice aa la ca))).alloc (duo (.bool nz) (.slice az xz.length cz))) 24 [.int .i64 0,.int .i64 0,.slice none 0 0]
  simpa using this
 have HMO := hid (multiplesOf19 (hd.now b0) hc);rw [hD] at HMO hM hMz ⊢;have x1 := pa.at (i := 1) rfl;have y0 := pd.c0;have y1 := pd.c1;rw [← hW] at x1 y0 y1;have PA := hid pa;have G0 := hid b0;have EW := hid hW;have SZ := hid sz0;have HM := hid hM;have HMZ := hid hMz;have HMA := hid hMA;have Hk := hid hk;have Hkw := hid hkw;have Hkw1 := hid hkw1;have HK := hid hK;have HD0 := hid hD0;replace M0 := hid (M0.out.now b0);clear hm hd hz hMz hMA hM hk hkw hkw1 hK hla b0 sz0 hW pa pd hD hD0;refine callsIn_of_wp_marks Tryz.func29 rfl trivial ?_ rfl;simp only [Tryz.ntmps29,List.size_toArray,List.length_cons,List.length_nil,Nat.reduceAdd,Nat.reduceSub,Array.replicate_succ,Array.replicate_zero,List.push_toArray,List.append_toArray,List.nil_append,List.cons_append];gi_wp2_with fail;rw [EW.out];clear EW x1 y0 y1;refine ⟨trivial,(callsIn_wide.2 HMO.out).mono ?_⟩;rintro e w1 ⟨bt,nd,ad,ld,cd,lv,gs,rfl,tg,hbt,b1⟩;obtain ⟨W2,hW2⟩ : ∃ W2,w1.alloc (.cells #[.pointer (some ⟨bt,0,none⟩)] 80) = W2 := ⟨_,rfl⟩
 obtain ⟨b2,sz2⟩ := alo1 w1 (.cells #[.pointer (some ⟨bt,0,none⟩)] 80);rw [hW2] at b2 sz2;have PP : Hid (Cel W2 w1.heap.size 80 [.pointer (some ⟨bt,0,none⟩)]) := by unfold Hid;rw [← hW2];exact Cel.new w1 _ _
 have bb := below_step b1 b2;have TG0 := hid (tg.now b2);replace PA := hid (PA.out.step bb);replace PR := hid (PR.out.step bb);replace M0 := hid (M0.out.now bb);have G1 := hid (below_step G0.out bb);have HLI := hid (zzE M0.out);have x0 := PA.out.at (i := 0) rfl;have x1 := PA.out.at (i := 1) rfl;have x2 := PA.out.at (i := 2) rfl;rw [← hW2] at x0 x1 x2;have EW2 := hid hW2;have hs0 := SZ.out;have hs1 := b1.size;have hs2 := sz2;have HLW : Hid (∀ i,i < c → gs i < W2.heap.size ∧ W0.heap.size ≤ gs i) := fun i hi => ⟨(TG0.out.2.2.2.2 i hi).2.blk,(TG0.out.2.2.2.2 i hi).1⟩
 have HBT : Hid (bt < W2.heap.size ∧ W0.heap.size ≤ bt) := ⟨TG0.out.1.blk,hbt⟩
 obtain ⟨bp,hbp⟩ : ∃ bp,w1.heap.size = bp := ⟨_,rfl⟩
 rw [hbp] at PP sz2 hs1 hs2;have EBP := hid hbp;clear tg b1 b2 bb hW2 HMO G0 hbt hbp;gi_wp2_with fail;rw [EW2.out,EBP.out];clear EW2 EBP;refine ⟨trivial,(callsIn_wide.2 HLI.out).mono ?_⟩;rintro e w3 ⟨Bm,ga,ps,rfl,q1,q2,q3,q4,q5,b⟩;have HQ3 := hid q3;have HQ5 := hid q5;have HQ1 := hid q1;have TG3 := hid (TG0.out.now b);have G3 := hid (below_step G1.out b);have HNB : Hid (W2.heap.size ≤ w3.heap.size) := b.size;replace PR := hid (PR.out.step b);replace PP := hid (PP.out.step b);have hs3 := b.size;clear q1 q3 q5 b x0 x1 x2 HLI G1 TG0 M0 PA;gi_wp2_with fail;have hml : (rowsL r c zs).length = r := ztB;have RS0 : Hid (Rs19 c D (fun i j => if i = j then D else 0) (Md19 0 c (en c zs) D)) := Rs19.first HD0.out _;refine zaF (σ := Nat × List Nat) (α := Nat × Nat) (by decide) rfl (enters_of Tryz.func74 (by kernel_rfl) rfl) (encL c) (fun _ => rfl)
  (zfG w W0.heap.size bt nd ad ld cd lv r c D gs (en c zs) k kw bp (w.heap.size + 1 + 1) W2.heap.size) (zfG.own (by omega)) (AtL k1 (rowsL r c zs)) (fun s x => AtL.own s x) (fun s x => (s.1,s.2 ++ [x.2]))
  (fun s => KpL (ls19 gs c) s.1) (fun h h' => h.trans h') (fun s W l o o' _ h1 h2 => KpL.put h1 h2) (fun s => s.2 = [] ∧ W2.heap.size ≤ s.1) (fun s => s.2.length = r) ?ini ?it (fun x => { tmps := #[matv r c (.slice aa la ca),.agg #[.bool nz,.slice az xz.length cz],.pointer (some ⟨w.heap.size,0,none⟩),.pointer (some ⟨w.heap.size + 1,0,none⟩),.pointer (some ⟨w.heap.size + 1 + 1,0,none⟩),.pointer (some ⟨bp,0,none⟩),undef,.slice (some ⟨x.2,0,none⟩) c c,.agg #[.bool nz,.slice az xz.length cz],.pointer (some ⟨w.heap.size,1,none⟩),.int .i64 (c : Int),.pointer (some ⟨bt,0,none⟩),.agg #[.int .i64 (r : Int),.int .i64 (c : Int),.slice aa la ca],.func (.func 74) #[] #[.pointer (some ⟨Bm,0,none⟩)],.int .i64 (x.1 : Int),.slice (some ⟨x.2,0,none⟩) c c,undef,undef,undef,undef,undef,undef,undef],defers := [] }) ?assign ?body ?done
 case ini =>
  rintro ⟨B,l⟩ ⟨rfl,hB⟩;exact ⟨_,⟨TG3.out.1,TG3.out.2.1,TG3.out.2.2.more19 Hkw.out⟩,RS0.out,fun x h => by simp at h,PP.out,PR.out,Nat.zero_le _,G3.out,hB⟩
 case it =>
  intro l J' W hW hJ hJb hJ0 hY;have c1 : Cel W Bm 24 (matc r c (.slice (some ⟨ga,0,none⟩) (r * c) (r * c))) := HQ1.out.step hW;have ar := HQ3.out.step hW;have zr := HQ5.out.now hW;have hrc : r * c ≤ 64 * 64 := Nat.mul_le_mul hr hc;obtain ⟨Bw,hBw⟩ : ∃ Bw,W2.heap.size = Bw + 1 := ⟨W2.heap.size - 1,by omega⟩
  have pr : Prs (Bw + 1) W (.slice (some ⟨ga,0,none⟩) (r * c) (r * c)) ps := by
   have := ar.prs (B := Bw + 1) (by omega) (by omega) (cap := r * c) (by omega);rw [q4] at this;exact this
  refine (zAF (S := ls19 gs c) (by decide) J' c1 pr q4 zr.zis hr hc hJb (fun B hB => hJ0 _ ⟨rfl,by have := hW.size;omega⟩) (fun s A h => by
   obtain ⟨_,_,_,h4,_⟩ := hJ s A h;exact h4) (by have := hW.size;omega) (fun b off x hs e => ?_) (fun b hs => ?_) (fun s x X h1 h2 _ => hY s x X h1 h2)).mono (fun e Y h => h)
  ·obtain ⟨i,hi,rfl⟩ := hs
   obtain ⟨C,hC⟩ := (TG3.out.now hW).cell19 hi;obtain ⟨ps',p1,-⟩ := ((TG3.out.now hW).2.2.2.2 i hi).2;exact absurd e (p1.noW19 off x)
  ·obtain ⟨i,hi,rfl⟩ := hs
   have := HLW.out i hi;omega
 case assign =>
  intro l x W K hK;have HKK := hid hK;clear hK;gi_wp2;exact HKK.out
 case body =>
  rintro l ⟨B,gl⟩ ⟨t,gx⟩ W ⟨L,h1,h2,h3,h4,h5,h6,h7,h8⟩ ⟨k1',k2',k3',k4',k5',ps',k6',k7'⟩;dsimp only at k1' k2' k3' k4' k5' k6' k7' h1 h2 h3 h6 h8 ⊢;subst k1';have hgr : gl.length < r := by omega
  rw [zHH HZL.out hgr] at k7';have RWX : Rw17 W gx c (en c zs gl.length) kw := ⟨ps',k6',k7'.more Hkw1.out⟩
  have hne : ∀ i,i < c → gx ≠ gs i := fun i hi q => by have := HLW.out i hi;omega
  have hmA : ∀ j,j < c → ((en c zs gl.length j).natAbs : Int) ≤ M := fun j hj => by
   unfold en;have hlt : gl.length * c + j < zs.length := by rw [HZL.out];exact zpE hgr hj
   have : zs.getD (gl.length * c + j) 0 ∈ zs := by simp [hlt]
   exact HMA.out _ this
  have HC := hid (put19 h1 RWX hne h2 HD0.out hmA HMZ.out HM.out hc Hk.out Hkw.out HK.out);have y0 := h4.at (i := 0) rfl;have FIN : Hid (∀ e Y,zVH W0.heap.size W bt nd ad ld cd lv c D gs gx k kw (zjE (Md19 gl.length c (en c zs) D) (en c zs gl.length)) e Y → KeepsFrom w3.heap.size W Y ∧ zfG w W0.heap.size bt nd ad ld cd lv r c D gs (en c zs) k kw bp (w.heap.size + 1 + 1) W2.heap.size (B,gl ++ [gx]) Y ∧ KpL (ls19 gs c) B W Y) := by
   rintro e Y ⟨L',-,t1,t2,t3⟩;have ty : Ty 27 W Y := t3.tyS19 (fun b q => by
    rcases q with rfl | ⟨i,hi,rfl⟩
    ·exact RWX.cel19
    ·exact (h1.2.2.2.2 i hi).2.cel19)
   refine ⟨⟨t3.size,fun j o _ e q => ?_⟩,⟨L',t1,?_,fun x hx => ?_,h4.ty13 ty (by decide),h5.ty13 ty (by decide),by simp;omega,h7.trans ⟨t3.os,t3.tape,t3.output,t3.size,fun b hb => t3.block b (Nat.lt_of_lt_of_le hb h7.size) (fun q => ?_)⟩,h8⟩,⟨t3.size,fun b o hb hne' e _ => (t3.block b (Array.getElem?_eq_some_iff.1 e).1 (fun q => ?_)).trans e⟩⟩
   ·refine (t3.block j (Array.getElem?_eq_some_iff.1 e).1 (fun q' => ?_)).trans e
    rcases q' with rfl | ⟨i,hi,rfl⟩
    ·have := (show W.heap[_]? = _ from k6'.1).symm.trans e
     rw [Option.some.injEq] at this;subst this;cases q
    ·obtain ⟨C,hC⟩ := h1.cell19 hi
     rw [hC,Option.some.injEq] at e;subst e;cases q
   ·have := t2.iff (Q := Md19 (gl.length + 1) c (en c zs) D) fun v => md_next v
    simpa using this
   ·rcases List.mem_append.1 hx with q | q
    ·exact Nat.lt_of_lt_of_le (h3 x q) t3.size
    ·have : x = gx := by simpa using q
     subst this;exact Nat.lt_of_lt_of_le k6'.1.blk t3.size
   ·rcases q with rfl | ⟨i,hi,rfl⟩
    ·omega
    ·have := HLW.out i hi;omega
   ·rcases q with rfl | ⟨i,hi,rfl⟩
    ·omega
    ·exact hne' ⟨i,hi,rfl⟩
  refine wpIn_block (zjB (znC (by kernel_rfl)) (by rintro ⟨a,w,h⟩;cases h.1) ?_);clear h1 h2 h3 h4 h5 h6 h7 h8 k2' k3' k4' k5' k6' k7' RWX hne hmA;dsimp only;go_wp2_with fail;refine HC.out.mono ?_;intro e Y hcl;have hF := hid (FIN.out e Y hcl);obtain ⟨_,rfl,-⟩ := hcl;clear HC FIN y0;go_wp2;exact ⟨trivial,hF.out⟩
 case done =>
  rintro Dd ⟨B,gl⟩ W hDs hl ⟨L,h1,h2,h3,h4,h5,h6,h7,h8⟩ hDd;dsimp only at hl h1 h2 h3 h6 h8;rw [hl] at h2;have hDD : D + 64 * (D * D) < pw kw := by have := HM.out;have := HMZ.out;omega
  have HLO := hid (lower19 h1 h2 HD0.out hDD hc Hk.out Hkw.out HK.out);have y0 := h4.at (i := 0) rfl;have HT := hid h1;have H4 := hid h4;have H5 := hid h5;have H7 := hid h7;have HDd := hid hDd;clear h1 h2 h3 h4 h5 h6 h7 hDd;gi_wp2_with fail;refine ⟨trivial,(callsIn_wide.2 HLO.out).mono ?_⟩;rintro e w4 ⟨H,rfl,t1,t2,t3⟩;have ty : Ty 27 W w4 := t3.tyS19 (fun b q => by
   obtain ⟨i,hi,rfl⟩ := q;exact (HT.out.2.2.2.2 i hi).2.cel19)
  have hD4 : w4.heap[Dd]? = some (.deferred (some [])) := (t3.block Dd (Array.getElem?_eq_some_iff.1 HDd.out).1 (fun ⟨i,hi,q⟩ => by
   obtain ⟨C,hC⟩ := HT.out.cell19 hi;rw [← q,HDd.out] at hC;cases hC)).trans HDd.out
  have P4 := hid (H4.out.ty13 ty (by decide));have R4 := hid (H5.out.ty13 ty (by decide));have B4 : Hid (Below w.heap.size w w4) := H7.out.trans ⟨t3.os,t3.tape,t3.output,t3.size,fun b hb => t3.block b (Nat.lt_of_lt_of_le hb H7.out.size) (fun ⟨i,hi,q⟩ => by have := HLW.out i hi;omega)⟩;have HH := hid t2;have HMX := hid (matrix19 t1 hc);have z0 := P4.out.at (i := 0) rfl;have HD4 := hid hD4;clear HLO t1 t2 t3 ty hD4 HT H4 H5 H7 HDd y0;gi_wp2_with fail;refine ⟨trivial,(callsIn_wide.2 HMX.out).mono ?_⟩;rintro e w5 ⟨vm,rfl,mm,b⟩;obtain ⟨am,cm,rfl,-,-⟩ := mm.mx.form;have R5 := hid (R4.out.step b);have HD5 : Hid (w5.heap[Dd]? = some (.deferred (some []))) := (b.block Dd (Array.getElem?_eq_some_iff.1 HD4.out).1).trans HD4.out;have r0 := R5.out.at (i := 0) rfl;have r1 := R5.out.at (i := 1) rfl;have r2 := R5.out.at (i := 2) rfl;have f0 := R5.out.fz 0;have f1 := R5.out.fz 1;have f2 := R5.out.fz 2;obtain ⟨U,hU⟩ : ∃ U,((w5.setCell ⟨w.heap.size + 1 + 1,0,none⟩ (.int .i64 (c : Int))).setCell ⟨w.heap.size + 1 + 1,1,none⟩ (.int .i64 (c : Int))).setCell ⟨w.heap.size + 1 + 1,2,none⟩ (.slice am (c * c) cm) = U := ⟨_,rfl⟩
  have hK1 : U.heap[Dd]? = some (.deferred (some [])) := by
   rw [← hU];exact (((KeepsOthers.setCell w5 ⟨w.heap.size + 1 + 1,0,none⟩ _).trans (KeepsOthers.setCell _ ⟨w.heap.size + 1 + 1,1,none⟩ _)).trans (KeepsOthers.setCell _ ⟨w.heap.size + 1 + 1,2,none⟩ _)).same Dd _ HD5.out rfl
  have mU : Mc U (.agg #[.int .i64 (c : Int),.int .i64 (c : Int),.slice am (c * c) cm]) c c (zF c c H) kw := by rw [← hU];exact mm.wk R5.out _ _ _
  have pU : Cel U (w.heap.size + 1 + 1) 24 [.int .i64 (c : Int),.int .i64 (c : Int),.slice am (c * c) cm] := by rw [← hU];exact R5.out.put3 _ _ _
  have bU : Below w.heap.size w U := by rw [← hU];exact zHA (below_step B4.out b) (by omega) _ _ _
  have kg := zQB (grownBy_putObj' U Dd (.deferred none)) (fun r e => by cases e;exact ⟨_,hK1,rfl⟩);have BB := bU.trans (belowK_b (w := w) (Nat.le_refl _) _ Dd _ (.deferred none) (by have := G3.out.size;omega) hK1 rfl rfl);have PU := hid (kg.cel pU);have HZ : Hid (zrF w r c (en c zs) D kw (.returned (.agg #[.int .i64 (c : Int),.int .i64 (c : Int),.slice am (c * c) cm])) (U.putObj Dd (.deferred none))) := ⟨_,H,rfl,mU.kc19 kg,HH.out,BB⟩
  have HKD := hid hK1;have EU := hid hU;obtain ⟨lm,hlm⟩ : ∃ lm,c * c = lm := ⟨_,rfl⟩
  rw [hlm] at PU HZ EU ⊢;clear hU hK1 mU pU bU kg BB mm b R4 R5 HD5 HD4 B4 HMX P4 z0 hlm HH;gi_wp2;rw [EU.out];refine ⟨by simp,.inl ⟨_,_,rfl,run_takeDeferred HKD.out,?_⟩⟩;exact ⟨_,zxE Tryz.results29 PU.out _ (by rfl),HZ.out⟩
end Go.Proofs.YtfeofdpnhhiclaaGreat
