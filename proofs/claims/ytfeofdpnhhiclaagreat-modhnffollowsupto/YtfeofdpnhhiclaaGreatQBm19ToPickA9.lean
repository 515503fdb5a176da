/-
 QBm19ToPickA9: Bm19, Ints9, PickA9, joined.
-/
import Derived.Test.YtfeofdpnhhiclaaGreatQLow19
import Derived.Test.YtfeofdpnhhiclaaGreatQMo19ToIx13
import Derived.Test.YtfeofdpnhhiclaaGreatQMa19
import Derived.Test.YtfeofdpnhhiclaaGreatQLm6ToChkN9

set_option maxRecDepth 100000
set_option maxHeartbeats 6400000
set_option linter.unusedVariables false
set_option linter.unusedSimpArgs false
namespace Go.Proofs.YtfeofdpnhhiclaaGreat
open Go.RowKit Go.Shelf
attribute [local go_sem] Oper.semAt_some
theorem Sh17.more19 {B m n k l : Nat} {w : World} {lv : Value} {gs : Nat → Nat} {L : Nat → Nat → Int} (h : Sh17 B w lv m n gs L k) (hl : k ≤ l) : Sh17 B w lv m n gs L l := ⟨h.1,h.2.1,fun i hi => ⟨(h.2.2 i hi).1,(h.2.2 i hi).2.more hl⟩⟩
theorem zME : ∀ {ps : List (Value × Value)},(∀ p ∈ ps,IsI p) → ∀ u,u ∈ flat ps → ∀ x,u ≠ .int .u64 x
 | [],_,u,hu,x => by simp [flat] at hu
 | p :: r,h,u,hu,x => by
  simp only [flat,List.mem_cons] at hu;obtain ⟨n,a,l,c,rfl⟩ := h p (by simp);rcases hu with rfl | rfl | hu
  ·simp
  ·simp
  ·exact zME (fun q hq => h q (by simp [hq])) u hu x
theorem Arr.noW19 {w : World} {g : Nat} {ps : List (Value × Value)} (h : Arr w g ps) (off : Nat) (x : Int) : w.cell? ⟨g,off,none⟩ ≠ some (.int .u64 x) := fun e => by
 have hc := show w.heap[g]? = _ from h.1;simp [World.cell?,hc] at e;exact zME h.2 _ (List.mem_of_getElem? e) x rfl
theorem Kc.cell19 {X Y : World} (h : Kc X Y) {p : Addr} {v : Value} (e : X.cell? p = some v) : Y.cell? p = some v := by
 obtain ⟨o,q1,q2⟩ := zLC e;exact (World.cell?_of_block ((h.2 _ o q1 q2).trans q1.symm)).trans e
theorem Mc.kc19 {w w' : World} {v : Value} {r c : Nat} {zs : List Int} {k : Nat} (h : Mc w v r c zs k) (hk : Kc w w') : Mc w' v r c zs k := by
 obtain ⟨at_,ps,h1,h2,h3,h4⟩ := h;exact ⟨at_,ps,h1,h2.kept11 hk.1 (fun p u _ _ e => hk.cell19 e),h3.wk hk.wk,h4⟩
def zAH (w : World) (Bt bt : Nat) (nd : Bool) (ad : Option Addr) (ld cd : Nat) (lv : Value) (r c : Nat) (D : Int) (gs : Nat → Nat) (A : Nat → Nat → Int) (k kw Bp Br N : Nat) (s : Nat × List Nat) (W : World) : Prop :=
 ∃ L,Tg19 Bt W bt nd ad ld cd lv c D gs L k kw ∧ Rs19 c D L (Md19 s.2.length c A D) ∧ (∀ x ∈ s.2,x < W.heap.size) ∧ Cel W Bp 80 [.pointer (some ⟨bt,0,none⟩)] ∧ Cel W Br 24 [.int .i64 0,.int .i64 0,.slice none 0 0] ∧ s.2.length ≤ r ∧ Below w.heap.size w W ∧ N ≤ s.1
theorem zAH.own {w : World} {Bt bt ld cd r c k kw Bp Br N B : Nat} {nd : Bool} {ad : Option Addr} {lv : Value} {D : Int} {gs : Nat → Nat} {A : Nat → Nat → Int} (hB : w.heap.size ≤ B) : OwnFrom B (zAH w Bt bt nd ad ld cd lv r c D gs A k kw Bp Br N) := fun s W W' row hs hg hr => by
 obtain ⟨L,h1,h2,h3,h4,h5,h6,h7,h8⟩ := hs;have hk := zPB hg (fun r e => (hr r e).2);exact ⟨L,h1.kc19 hk,h2,fun x hx => Nat.lt_of_lt_of_le (h3 x hx) hk.1,hk.cel h4,hk.cel h5,h6,h7.grown hg h7.size (fun k e => Nat.le_trans hB (hr k e).1),h8⟩
def zfF (w : World) (r c : Nat) (A : Nat → Nat → Int) (D : Int) (kw : Nat) (e : Ending) (w' : World) : Prop :=
 ∃ v H,e = .returned v ∧ Mc w' v c c (zF c c H) kw ∧ Hb19 c H (Md19 r c A D) ∧ Below w.heap.size w w'
theorem Tg19.cell19 {B bt ld cd n k kw i : Nat} {w : World} {nd : Bool} {ad : Option Addr} {lv : Value} {D : Int} {gs : Nat → Nat} {L : Nat → Nat → Int} (h : Tg19 B w bt nd ad ld cd lv n D gs L k kw) (hi : i < n) : ∃ C,w.heap[gs i]? = some (.cells C 27) := by
 obtain ⟨ps,p1,-⟩ := (h.2.2.2.2 i hi).2;exact ⟨_,p1.1⟩
theorem ztC {w : World} {v u : Value} {r c : Nat} {zs : List Int} {z M : Int} {k k1 kw : Nat} (hm : Mx w v r c zs k1) (hd : Zi w u z k) (hz : z ≠ 0) (hMz : (z.natAbs : Int) ≤ M) (hMA : ∀ x ∈ zs,(x.natAbs : Int) ≤ M) (hM : M + 64 * ((z.natAbs : Int) * (z.natAbs : Int)) < pw kw) (hk : 1 ≤ k) (hkw : k ≤ kw) (hkw1 : k1 ≤ kw) (hK : kw ≤ 17179869184) :
  Calls Tryz.prog 29 #[v,u] w (zfF w r c (en c zs) (z.natAbs : Int) kw) := by
 have M0 := hid hm;refine (callsIn_wide (n := 5)).1 ?_;obtain ⟨D,hD⟩ : ∃ D : Int,(z.natAbs : Int) = D := ⟨_,rfl⟩
 have hD0 : 0 < D := by omega
 obtain ⟨aa,ca,rfl,hr,hc⟩ := hm.form;obtain ⟨nz,xz,az,cz,rfl,-,-,-⟩ := id hd;have HZL : Hid (zs.length = r * c) := by obtain ⟨_,_,_,_,_,h,_⟩ := hm;exact h
 obtain ⟨la,hla⟩ : ∃ la,r * c = la := ⟨_,rfl⟩
 rw [hla] at M0 ⊢;obtain ⟨W0,hW⟩ : ∃ W0,((w.alloc (matO r c (.slice aa la ca))).alloc (duo (.bool nz) (.slice az xz.length cz))).alloc mbox = W0 := ⟨_,rfl⟩
 obtain ⟨b0,sz0⟩ := zvB w (matO r c (.slice aa la ca)) (duo (.bool nz) (.slice az xz.length cz)) mbox;rw [hW] at b0 sz0;have pa : Cel W0 w.heap.size 24 (matc r c (.slice aa la ca)) := by
  rw [← hW];exact ((Cel.new w 24 (matc r c (.slice aa la ca))).step ((Below.refl _ _).alloc (Nat.le_refl _) _)).step ((Below.refl _ _).alloc (Nat.le_refl _) _)
 have pd : Duo W0 (w.heap.size + 1) (.bool nz) (.slice az xz.length cz) := by rw [← hW];exact zDA (zGA (by simp)) _
 have PR : Hid (Cel W0 (w.heap.size + 1 + 1) 24 [.int .i64 0,.int .i64 0,.slice none 0 0]) := by
  unfold Hid;rw [← hW];have := Cel.new ((w.alloc (matO r c (.slice aa la ca))).alloc (duo (.bool nz) (.slice az xz.length cz))) 24 [.int .i64 0,.int .i64 0,.slice none 0 0]
  simpa using this
 have HMO := hid (multiplesOf19 (hd.now b0) hc);rw [hD] at HMO hM hMz ⊢;have x1 := pa.at (i := 1) rfl;have y0 := pd.c0;have y1 := pd.c1;rw [← hW] at x1 y0 y1;have PA := hid pa;have G0 := hid b0;have EW := hid hW;have SZ := hid sz0;have HM := hid hM;have HMZ := hid hMz;have HMA := hid hMA;have Hk := hid hk;have Hkw := hid hkw;have Hkw1 := hid hkw1;have HK := hid hK;have HD0 := hid hD0;replace M0 := hid (M0.out.now b0);clear hm hd hz hMz hMA hM hk hkw hkw1 hK hla b0 sz0 hW pa pd hD hD0;refine callsIn_of_wp_marks Tryz.func29 rfl trivial ?_ rfl;simp only [Tryz.ntmps29,List.size_toArray,List.length_cons,List.length_nil,Nat.reduceAdd,Nat.reduceSub,Array.replicate_succ,Array.replicate_zero,List.push_toArray,List.append_toArray,List.nil_append,List.cons_append];gi_wp2_with fail;rw [EW.out];clear EW x1 y0 y1;refine ⟨trivial,(callsIn_wide.2 HMO.out).mono ?_⟩;rintro e w1 ⟨bt,nd,ad,ld,cd,lv,gs,rfl,tg,hbt,b1⟩;obtain ⟨W2,hW2⟩ : ∃ W2,w1.alloc (.cells #[.pointer (some ⟨bt,0,none⟩)] 80) = W2 := ⟨_,rfl⟩
 obtain ⟨b2,sz2⟩ := alo1 w1 (.cells #[.pointer (some ⟨bt,0,none⟩)] 80);rw [hW2] at b2 sz2;have PP : Hid (Cel W2 w1.heap.size 80 [.pointer (some ⟨bt,0,none⟩)]) := by unfold Hid;rw [← hW2];exact Cel.new w1 _ _
 have bb := below_step b1 b2;have TG0 := hid (tg.now b2);replace PA := hid (PA.out.step bb);replace PR := hid (PR.out.step bb);replace M0 := hid (M0.out.now bb);have G1 := hid (below_step G0.out bb);have HLI := hid (zDF M0.out);have x0 := PA.out.at (i := 0) rfl;have x1 := PA.out.at (i := 1) rfl;have x2 := PA.out.at (i := 2) rfl;rw [← hW2] at x0 x1 x2;have EW2 := hid hW2;have hs0 := SZ.out;have hs1 := b1.size;have hs2 := sz2;have HLW : Hid (∀ i,i < c → gs i < W2.heap.size ∧ W0.heap.size ≤ gs i) := fun i hi => ⟨(TG0.out.2.2.2.2 i hi).2.blk,(TG0.out.2.2.2.2 i hi).1⟩
 have HBT : Hid (bt < W2.heap.size ∧ W0.heap.size ≤ bt) := ⟨TG0.out.1.blk,hbt⟩
 obtain ⟨bp,hbp⟩ : ∃ bp,w1.heap.size = bp := ⟨_,rfl⟩
 rw [hbp] at PP sz2 hs1 hs2;have EBP := hid hbp;clear tg b1 b2 bb hW2 HMO G0 hbt hbp;gi_wp2_with fail;rw [EW2.out,EBP.out];clear EW2 EBP;refine ⟨trivial,(callsIn_wide.2 HLI.out).mono ?_⟩;rintro e w3 ⟨Bm,ga,ps,rfl,q1,q2,q3,q4,q5,b⟩;have HQ3 := hid q3;have HQ5 := hid q5;have HQ1 := hid q1;have TG3 := hid (TG0.out.now b);have G3 := hid (below_step G1.out b);have HNB : Hid (W2.heap.size ≤ w3.heap.size) := b.size;replace PR := hid (PR.out.step b);replace PP := hid (PP.out.step b);have hs3 := b.size;clear q1 q3 q5 b x0 x1 x2 HLI G1 TG0 M0 PA;gi_wp2_with fail;have hml : (rowsL r c zs).length = r := zxB;have RS0 : Hid (Rs19 c D (fun i j => if i = j then D else 0) (Md19 0 c (en c zs) D)) := Rs19.first HD0.out _;refine zoF (σ := Nat × List Nat) (α := Nat × Nat) (by decide) rfl (enters_of Tryz.func74 (by kernel_rfl) rfl) (encL c) (fun _ => rfl)
  (zAH w W0.heap.size bt nd ad ld cd lv r c D gs (en c zs) k kw bp (w.heap.size + 1 + 1) W2.heap.size) (zAH.own (by omega)) (AtL k1 (rowsL r c zs)) (fun s x => AtL.own s x) (fun s x => (s.1,s.2 ++ [x.2]))
  (fun s => KpL (ls19 gs c) s.1) (fun h h' => h.trans h') (fun s W l o o' _ h1 h2 => KpL.put h1 h2) (fun s => s.2 = [] ∧ W2.heap.size ≤ s.1) (fun s => s.2.length = r) ?ini ?it (fun x => { tmps := #[matv r c (.slice aa la ca),.agg #[.bool nz,.slice az xz.length cz],.pointer (some ⟨w.heap.size,0,none⟩),.pointer (some ⟨w.heap.size + 1,0,none⟩),.pointer (some ⟨w.heap.size + 1 + 1,0,none⟩),.pointer (some ⟨bp,0,none⟩),undef,.slice (some ⟨x.2,0,none⟩) c c,.agg #[.bool nz,.slice az xz.length cz],.pointer (some ⟨w.heap.size,1,none⟩),.int .i64 (c : Int),.pointer (some ⟨bt,0,none⟩),.agg #[.int .i64 (r : Int),.int .i64 (c : Int),.slice aa la ca],.func (.func 74) #[] #[.pointer (some ⟨Bm,0,none⟩)],.int .i64 (x.1 : Int),.slice (some ⟨x.2,0,none⟩) c c,undef,undef,undef,undef,undef,undef,undef],defers := [] }) ?assign ?body ?done
 case ini =>
  rintro ⟨B,l⟩ ⟨rfl,hB⟩;exact ⟨_,⟨TG3.out.1,TG3.out.2.1,TG3.out.2.2.more19 Hkw.out⟩,RS0.out,fun x h => by simp at h,PP.out,PR.out,Nat.zero_le _,G3.out,hB⟩
 case it =>
  intro l J' W hW hJ hJb hJ0 hY;have c1 : Cel W Bm 24 (matc r c (.slice (some ⟨ga,0,none⟩) (r * c) (r * c))) := HQ1.out.step hW;have ar := HQ3.out.step hW;have zr := HQ5.out.now hW;have hrc : r * c ≤ 64 * 64 := Nat.mul_le_mul hr hc;obtain ⟨Bw,hBw⟩ : ∃ Bw,W2.heap.size = Bw + 1 := ⟨W2.heap.size - 1,by omega⟩
  have pr : Prs (Bw + 1) W (.slice (some ⟨ga,0,none⟩) (r * c) (r * c)) ps := by
   have := ar.prs (B := Bw + 1) (by omega) (by omega) (cap := r * c) (by omega);rw [q4] at this;exact this
  refine (zEF (S := ls19 gs c) (by decide) J' c1 pr q4 zr.zis hr hc hJb (fun B hB => hJ0 _ ⟨rfl,by have := hW.size;omega⟩) (fun s A h => by
   obtain ⟨_,_,_,h4,_⟩ := hJ s A h;exact h4) (by have := hW.size;omega) (fun b off x hs e => ?_) (fun b hs => ?_) (fun s x X h1 h2 _ => hY s x X h1 h2)).mono (fun e Y h => h)
  ·obtain ⟨i,hi,rfl⟩ := hs
   obtain ⟨C,hC⟩ := (TG3.out.now hW).cell19 hi;obtain ⟨ps',p1,-⟩ := ((TG3.out.now hW).2.2.2.2 i hi).2;exact absurd e (p1.noW19 off x)
  ·obtain ⟨i,hi,rfl⟩ := hs
   have := HLW.out i hi;omega
 case assign =>
  intro l x W K hK;have HKK := hid hK;clear hK;gi_wp2;exact HKK.out
 case body =>
  rintro l ⟨B,gl⟩ ⟨t,gx⟩ W ⟨L,h1,h2,h3,h4,h5,h6,h7,h8⟩ ⟨k1',k2',k3',k4',k5',ps',k6',k7'⟩;dsimp only at k1' k2' k3' k4' k5' k6' k7' h1 h2 h3 h6 h8 ⊢;subst k1';have hgr : gl.length < r := by omega
  rw [zaH HZL.out hgr] at k7';have RWX : Rw17 W gx c (en c zs gl.length) kw := ⟨ps',k6',k7'.more Hkw1.out⟩
  have hne : ∀ i,i < c → gx ≠ gs i := fun i hi q => by have := HLW.out i hi;omega
  have hmA : ∀ j,j < c → ((en c zs gl.length j).natAbs : Int) ≤ M := fun j hj => by
   unfold en;have hlt : gl.length * c + j < zs.length := by rw [HZL.out];exact zGG hgr hj
   have : zs.getD (gl.length * c + j) 0 ∈ zs := by simp [hlt]
   exact HMA.out _ this
  have HC := hid (put19 h1 RWX hne h2 HD0.out hmA HMZ.out HM.out hc Hk.out Hkw.out HK.out);have y0 := h4.at (i := 0) rfl;have FIN : Hid (∀ e Y,zoH W0.heap.size W bt nd ad ld cd lv c D gs gx k kw (zpE (Md19 gl.length c (en c zs) D) (en c zs gl.length)) e Y → KeepsFrom w3.heap.size W Y ∧ zAH w W0.heap.size bt nd ad ld cd lv r c D gs (en c zs) k kw bp (w.heap.size + 1 + 1) W2.heap.size (B,gl ++ [gx]) Y ∧ KpL (ls19 gs c) B W Y) := by
   rintro e Y ⟨L',-,t1,t2,t3⟩;have ty : Ty 27 W Y := t3.tyS19 (fun b q => by
    rcases q with rfl | ⟨i,hi,rfl⟩
    ·exact RWX.cel19
    ·exact (h1.2.2.2.2 i hi).2.cel19)
   refine ⟨⟨t3.size,fun j o _ e q => ?_⟩,⟨L',t1,?_,fun x hx => ?_,h4.ty13 ty (by decide),h5.ty13 ty (by decide),by simp;omega,h7.trans ⟨t3.os,t3.tape,t3.output,t3.size,fun b hb => t3.block b (Nat.lt_of_lt_of_le hb h7.size) (fun q => ?_)⟩,h8⟩,⟨t3.size,fun b o hb hne' e _ => (t3.block b (Array.getElem?_eq_some_iff.1 e).1 (fun q => ?_)).trans e⟩⟩
   ·refine (t3.block j (Array.getElem?_eq_some_iff.1 e).1 (fun q' => ?_)).trans e
    rcases q' with rfl | ⟨i,hi,rfl⟩
    ·have := (show W.heap[_]? = _ from k6'.1).symm.trans e
     rw [Option.some.injEq] at this;subst this;cases q
    ·obtain ⟨C,hC⟩ := h1.cell19 hi
     rw [hC,Option.some.injEq] at e;subst e;cases q
   ·have := t2.iff (Q := Md19 (gl.length + 1) c (en c zs) D) fun v => md_next v
    simpa using this
   ·rcases List.mem_append.1 hx with q | q
    ·exact Nat.lt_of_lt_of_le (h3 x q) t3.size
    ·have : x = gx := by simpa using q
     subst this;exact Nat.lt_of_lt_of_le k6'.1.blk t3.size
   ·rcases q with rfl | ⟨i,hi,rfl⟩
    ·omega
    ·have := HLW.out i hi;omega
   ·rcases q with rfl | ⟨i,hi,rfl⟩
    ·omega
    ·exact hne' ⟨i,hi,rfl⟩
  refine wpIn_block (zmB (zmC (by kernel_rfl)) (by rintro ⟨a,w,h⟩;cases h.1) ?_);clear h1 h2 h3 h4 h5 h6 h7 h8 k2' k3' k4' k5' k6' k7' RWX hne hmA;dsimp only;go_wp2_with fail;refine HC.out.mono ?_;intro e Y hcl;have hF := hid (FIN.out e Y hcl);obtain ⟨_,rfl,-⟩ := hcl;clear HC FIN y0;go_wp2;exact ⟨trivial,hF.out⟩
 case done =>
  rintro Dd ⟨B,gl⟩ W hDs hl ⟨L,h1,h2,h3,h4,h5,h6,h7,h8⟩ hDd;dsimp only at hl h1 h2 h3 h6 h8;rw [hl] at h2;have hDD : D + 64 * (D * D) < pw kw := by have := HM.out;have := HMZ.out;omega
  have HLO := hid (lower19 h1 h2 HD0.out hDD hc Hk.out Hkw.out HK.out);have y0 := h4.at (i := 0) rfl;have HT := hid h1;have H4 := hid h4;have H5 := hid h5;have H7 := hid h7;have HDd := hid hDd;clear h1 h2 h3 h4 h5 h6 h7 hDd;gi_wp2_with fail;refine ⟨trivial,(callsIn_wide.2 HLO.out).mono ?_⟩;rintro e w4 ⟨H,rfl,t1,t2,t3⟩;have ty : Ty 27 W w4 := t3.tyS19 (fun b q => by
   obtain ⟨i,hi,rfl⟩ := q;exact (HT.out.2.2.2.2 i hi).2.cel19)
  have hD4 : w4.heap[Dd]? = some (.deferred (some [])) := (t3.block Dd (Array.getElem?_eq_some_iff.1 HDd.out).1 (fun ⟨i,hi,q⟩ => by
   obtain ⟨C,hC⟩ := HT.out.cell19 hi;rw [← q,HDd.out] at hC;cases hC)).trans HDd.out
  have P4 := hid (H4.out.ty13 ty (by decide));have R4 := hid (H5.out.ty13 ty (by decide));have B4 : Hid (Below w.heap.size w w4) := H7.out.trans ⟨t3.os,t3.tape,t3.output,t3.size,fun b hb => t3.block b (Nat.lt_of_lt_of_le hb H7.out.size) (fun ⟨i,hi,q⟩ => by have := HLW.out i hi;omega)⟩;have HH := hid t2;have HMX := hid (matrix19 t1 hc);have z0 := P4.out.at (i := 0) rfl;have HD4 := hid hD4;clear HLO t1 t2 t3 ty hD4 HT H4 H5 H7 HDd y0;gi_wp2_with fail;refine ⟨trivial,(callsIn_wide.2 HMX.out).mono ?_⟩;rintro e w5 ⟨vm,rfl,mm,b⟩;obtain ⟨am,cm,rfl,-,-⟩ := mm.mx.form;have R5 := hid (R4.out.step b);have HD5 : Hid (w5.heap[Dd]? = some (.deferred (some []))) := (b.block Dd (Array.getElem?_eq_some_iff.1 HD4.out).1).trans HD4.out;have r0 := R5.out.at (i := 0) rfl;have r1 := R5.out.at (i := 1) rfl;have r2 := R5.out.at (i := 2) rfl;have f0 := R5.out.fz 0;have f1 := R5.out.fz 1;have f2 := R5.out.fz 2;obtain ⟨U,hU⟩ : ∃ U,((w5.setCell ⟨w.heap.size + 1 + 1,0,none⟩ (.int .i64 (c : Int))).setCell ⟨w.heap.size + 1 + 1,1,none⟩ (.int .i64 (c : Int))).setCell ⟨w.heap.size + 1 + 1,2,none⟩ (.slice am (c * c) cm) = U := ⟨_,rfl⟩
  have hK1 : U.heap[Dd]? = some (.deferred (some [])) := by
   rw [← hU];exact (((KeepsOthers.setCell w5 ⟨w.heap.size + 1 + 1,0,none⟩ _).trans (KeepsOthers.setCell _ ⟨w.heap.size + 1 + 1,1,none⟩ _)).trans (KeepsOthers.setCell _ ⟨w.heap.size + 1 + 1,2,none⟩ _)).same Dd _ HD5.out rfl
  have mU : Mc U (.agg #[.int .i64 (c : Int),.int .i64 (c : Int),.slice am (c * c) cm]) c c (zF c c H) kw := by rw [← hU];exact mm.wk R5.out _ _ _
  have pU : Cel U (w.heap.size + 1 + 1) 24 [.int .i64 (c : Int),.int .i64 (c : Int),.slice am (c * c) cm] := by rw [← hU];exact R5.out.put3 _ _ _
  have bU : Below w.heap.size w U := by rw [← hU];exact zNA (below_step B4.out b) (by omega) _ _ _
  have kg := zPB (grownBy_putObj' U Dd (.deferred none)) (fun r e => by cases e;exact ⟨_,hK1,rfl⟩);have BB := bU.trans (belowK_b (w := w) (Nat.le_refl _) _ Dd _ (.deferred none) (by have := G3.out.size;omega) hK1 rfl rfl);have PU := hid (kg.cel pU);have HZ : Hid (zfF w r c (en c zs) D kw (.returned (.agg #[.int .i64 (c : Int),.int .i64 (c : Int),.slice am (c * c) cm])) (U.putObj Dd (.deferred none))) := ⟨_,H,rfl,mU.kc19 kg,HH.out,BB⟩
  have HKD := hid hK1;have EU := hid hU;obtain ⟨lm,hlm⟩ : ∃ lm,c * c = lm := ⟨_,rfl⟩
  rw [hlm] at PU HZ EU ⊢;clear hU hK1 mU pU bU kg BB mm b R4 R5 HD5 HD4 B4 HMX P4 z0 hlm HH;gi_wp2;rw [EU.out];refine ⟨by simp,.inl ⟨_,_,rfl,run_takeDeferred HKD.out,?_⟩⟩;exact ⟨_,zgD Tryz.results29 PU.out _ (by rfl),HZ.out⟩
end Go.Proofs.YtfeofdpnhhiclaaGreat
namespace Go.Proofs.YtfeofdpnhhiclaaGreat
open Go.RowKit
def In9 (w : World) (v : Value) (is : List Int) : Prop :=
 ∃ a c,v = .slice a is.length c ∧ is.length ≤ c ∧ is.length ≤ 1048576 ∧ (is = [] ∨ ∃ b off,a = some ⟨b,off,none⟩ ∧ b < w.heap.size ∧ ∀ j (h : j < is.length),w.cell? ⟨b,off + j,none⟩ = some (.int .i64 is[j]))
theorem In9.now {w w' : World} {v : Value} {is : List Int} (h : In9 w v is) (hb : Below w.heap.size w w') : In9 w' v is := by
 obtain ⟨a,c,h1,h2,h3,h4⟩ := h;refine ⟨a,c,h1,h2,h3,?_⟩;rcases h4 with h4 | ⟨b,off,h5,h6,h7⟩
 ·exact .inl h4
 ·exact .inr ⟨b,off,h5,Nat.lt_of_lt_of_le h6 hb.size,fun j hj => (hb.cell (p := ⟨b,off + j,none⟩) h6).trans (h7 j hj)⟩
theorem In9.form {w : World} {v : Value} {is : List Int} (h : In9 w v is) : ∃ a c,v = .slice a is.length c ∧ is.length ≤ c ∧ is.length ≤ 1048576 ∧ (is ≠ [] → ∃ b off,a = some ⟨b,off,none⟩) := by
 obtain ⟨a,c,h1,h2,h3,h4⟩ := h;refine ⟨a,c,h1,h2,h3,fun hn => ?_⟩;rcases h4 with h4 | ⟨b,off,h5,_⟩
 ·exact absurd h4 hn
 ·exact ⟨b,off,h5⟩
theorem In9.at {w : World} {b off l c : Nat} {is : List Int} (h : In9 w (.slice (some ⟨b,off,none⟩) l c) is) {i : Nat} (hi : i < is.length) : w.cell? ⟨b,off + i,none⟩ = some (.int .i64 is[i]) := by
 obtain ⟨a,c,h1,h2,h3,h4⟩ := h;rcases h4 with h4 | ⟨b',off',h5,h6,h7⟩
 ·subst h4;simp at hi
 ·subst h5
  injection h1 with e1 e2 e3
  injection e1 with e1
  injection e1 with e1 e4
  subst e1 e4;exact h7 i hi
abbrev zfG (pb : Nat) : Value := .func (.func 143) #[] #[.pointer (some ⟨pb,0,none⟩)]
theorem below1_no {w : World} {x n : Int} {pb : Nat} (hp : w.cell? ⟨pb,0,none⟩ = some (.int .i64 n)) (h0 : 0 ≤ x) (h1 : x < n) : Calls Tryz.prog 143 #[.int .i64 x,.pointer (some ⟨pb,0,none⟩)] w fun e w' => e = .returned (.bool false) ∧ w' = w := by
 have q0 : ¬ x < 0 := by omega
 have q1 : ¬ n ≤ x := by omega
 go_enter Tryz.func143,Tryz.ntmps143;go_wp2;go_ret;exact ⟨rfl,rfl⟩
def Idx9 (w : World) (n g : Nat) (s : Value) (wx : World) : Prop := ∃ i : Nat,s = .int .i64 (i : Int) ∧ i ≤ n ∧ g = n - i ∧ Below w.heap.size w wx
theorem index9 {w : World} {v : Value} {is : List Int} {b : Int} {pb : Nat} (hv : In9 w v is) (hp : w.cell? ⟨pb,0,none⟩ = some (.int .i64 b)) (ha : ∀ x ∈ is,0 ≤ x ∧ x < b) :
  Calls Tryz.prog 121 #[v,zfG pb] w fun e w' => e = .returned (.int .i64 (-1)) ∧ Below w.heap.size w w' := by
 have V0 := hid hv;have P0 := hid hp;have HA : Hid (∀ i (h : i < is.length),0 ≤ is[i] ∧ is[i] < b) := fun i h => ha _ (List.getElem_mem h)
 obtain ⟨a0,c0,rfl,hc0,hn0,hf0⟩ := hv.form;obtain ⟨n,hn⟩ : ∃ n,is.length = n := ⟨_,rfl⟩
 rw [hn] at V0 hc0 hn0 ⊢;have HN := hid hn;have F0 := hid hf0;clear hv hf0 hn hp ha;have H0 : Hid (Idx9 w n n (.int .i64 0) w) := ⟨0,rfl,Nat.zero_le _,rfl,Below.refl _ _⟩
 go_enter Tryz.func121,Tryz.ntmps121;go_wp2_with fail
 go_loopg [8] n (fun g s8 wx => Idx9 w n g s8 wx)
 case atStart => exact H0.out
 case round =>
  clear H0;obtain ⟨i,rfl,hin,hg,hG⟩ := hrel;have G := hid hG;have HG := hid hg;clear hG hg
  by_cases hlt : i < n
  ·have hlt' : (i : Int) < (n : Int) := by omega
   obtain ⟨b1,o1,rfl⟩ := F0.out (fun e => by have := HN.out;rw [e] at this;simp at this;omega);have k0 := (V0.out.now G.out).at (i := i) (by rw [HN.out];exact hlt);have hx := HA.out i (by rw [HN.out];exact hlt);have HS := hid (below1_no (cnow G.out P0.out) hx.1 hx.2);have hw := zjA (i := i) (by omega);generalize is[i]'(by rw [HN.out];exact hlt) = x at *;clear hx;go_wp2_with fail;refine HS.out.mono ?_;rintro e w1 ⟨rfl,q⟩;rw [q];have HN1 : Hid (Idx9 w n (n - (i + 1)) (.int .i64 ((i + 1 : Nat) : Int)) wr) := ⟨i + 1,rfl,by omega,rfl,G.out⟩
   have HMM : Hid (n - (i + 1) < gk) := by unfold Hid;rw [HG.out];omega
   clear HS G HG k0 q;go_wp2_with fail;go_roundg (n - (i + 1))
   case rel => exact HN1.out
   case measure => exact HMM.out
  ·have hlt' : ¬ (i : Int) < (n : Int) := by omega
   clear HG;go_wp2;go_ret;exact ⟨rfl,G.out⟩
theorem contains9 {w : World} {v : Value} {is : List Int} {b : Int} {pb : Nat} (hv : In9 w v is) (hp : w.cell? ⟨pb,0,none⟩ = some (.int .i64 b)) (ha : ∀ x ∈ is,0 ≤ x ∧ x < b) :
  Calls Tryz.prog 142 #[v,zfG pb] w fun e w' => e = .returned (.bool false) ∧ Below w.heap.size w w' := by
 have HI := hid (index9 hv hp ha);obtain ⟨a0,c0,rfl,-,-,-⟩ := hv.form;clear hv hp ha;go_enter Tryz.func142,Tryz.ntmps142;go_wp2_with fail;refine HI.out.mono ?_;rintro e w1 ⟨rfl,b⟩;have G := hid b;clear HI b;go_wp2;go_ret;exact ⟨rfl,G.out⟩
theorem zOD {w : World} {v : Value} {is : List Int} {b : Int} (hv : In9 w v is) (ha : ∀ x ∈ is,0 ≤ x ∧ x < b) :
  Calls Tryz.prog 115 #[v,.int .i64 b] w fun e w' => e = .returned (.bool true) ∧ Below w.heap.size w w' := by
 obtain ⟨W0,hW⟩ : ∃ W0,w.alloc (.cells #[.int .i64 b] 3) = W0 := ⟨_,rfl⟩
 obtain ⟨b0,sz0⟩ := alo1 w (.cells #[.int .i64 b] 3);rw [hW] at b0 sz0;have hp : W0.cell? ⟨w.heap.size,0,none⟩ = some (.int .i64 b) := by rw [← hW];exact (Cel.new w 3 [.int .i64 b]).at (i := 0) rfl
 have HC := hid (contains9 (hv.now b0) hp ha);obtain ⟨a0,c0,rfl,-,-,-⟩ := hv.form;have G0 := hid b0;have EW := hid hW;clear hv ha b0 hW sz0 hp;go_enter Tryz.func115,Tryz.ntmps115;go_wp2_with fail;rw [EW.out];refine HC.out.mono ?_;rintro e w1 ⟨rfl,b⟩;have G := hid (below_step G0.out b);clear HC G0 EW b;go_wp2;go_ret;exact ⟨rfl,G.out⟩
def ent9 (zss : List (List Int)) (i j : Nat) : Int := (zss.getD i []).getD j 0
theorem pick11_any {w : World} {B pb ib k i j : Nat} {v : Value} {pss : List (List (Value × Value))} {zss : List (List Int)} (hp : w.cell? ⟨pb,0,none⟩ = some v) (hv : Prr B w v pss) (hz : Ziss w pss zss k) (hi : w.cell? ⟨ib,0,none⟩ = some (.int .i64 (i : Int))) (hil : i < pss.length) (hjl : j < (zss.getD i []).length) :
  Calls Tryz.prog 119 #[.int .i64 (j : Int),.pointer (some ⟨pb,0,none⟩),.pointer (some ⟨ib,0,none⟩)] w (zAB w (ent9 zss i j) k) := by
 obtain ⟨W0,hW⟩ : ∃ W0,w.alloc zbox = W0 := ⟨_,rfl⟩
 obtain ⟨b0,sz0⟩ := alo1 w zbox;rw [hW] at b0 sz0;have P3 : Hid (Duo W0 w.heap.size (.bool false) (.slice none 0 0)) := by unfold Hid;rw [← hW];exact Duo.new w _ _
 obtain ⟨a0,c0,rfl,hc0,hn0,hf0⟩ := hv.form;obtain ⟨b1,o1,rfl⟩ := hf0 (fun e => by rw [e] at hil;simp at hil);have hpi : pss[i]? = some pss[i] := List.getElem?_eq_getElem hil;obtain ⟨u,k0,pu⟩ := hv.at (i := i) hpi;have hzl := zCH pu (hz.2 i _ hpi);obtain ⟨a1,c1,rfl,hc1,hn1,hf1⟩ := hzl.form9;obtain ⟨b2,o2,rfl⟩ := hf1 (fun e => by rw [e] at hjl;simp at hjl);obtain ⟨nf,xf,adf,qf,e0,e1,zf⟩ := hzl.at9 (i := j) hjl;rw [zhE] at zf;have HS := hid (ziD (zf.now b0));have k1 : (w.alloc zbox).cell? ⟨pb,0,none⟩ = some (.slice (some ⟨b1,o1,none⟩) pss.length c0) := by rw [hW];exact cnow b0 hp
 have k2 : (w.alloc zbox).cell? ⟨ib,0,none⟩ = some (.int .i64 (i : Int)) := by rw [hW];exact cnow b0 hi
 have k3 : (w.alloc zbox).cell? ⟨b1,o1 + i,none⟩ = some (.slice (some ⟨b2,o2,none⟩) (zss.getD i []).length c1) := by rw [hW];exact cnow b0 k0
 have k4 : (w.alloc zbox).cell? ⟨b2,o2 + j * 2,none⟩ = some (.bool nf) := by rw [hW];exact cnow b0 e0
 have k5 : (w.alloc zbox).cell? ⟨b2,o2 + j * 2 + 1,none⟩ = some (.slice adf xf.length qf) := by rw [hW];exact cnow b0 e1
 have hi' : (i : Int) < (pss.length : Int) := by omega
 have hj' : (j : Int) < ((zss.getD i []).length : Int) := by omega
 have G0 := hid b0;have EW := hid hW;have SZ := hid sz0;have EE : Hid (ent9 zss i j = (zss.getD i []).getD j 0) := rfl;rw [EE.out];clear b0 hW sz0 hp hv hz hi hf0 hf1 hpi k0 pu hzl e0 e1 zf EE;generalize (zss.getD i []).getD j 0 = dd at *;generalize (zss.getD i []).length = ln at *;generalize pss.length = lp at *;go_enter Tryz.func119,Tryz.ntmps119;go_wp2_with fail;rw [EW.out];refine HS.out.mono ?_;rintro e w1 ⟨r,rfl,m1,b⟩;obtain ⟨nr,xr,ar,cr,rfl⟩ := m1.parts;have P31 := hid (P3.out.step b);have G1 := hid (below_step G0.out b);have HM := hid m1;have HB : Hid (w.heap.size < W0.heap.size) := by unfold Hid;rw [SZ.out];omega
 have r0 := P31.out.c0;have r1 := P31.out.c1;have f0 := P31.out.fz 0;have f1 := P31.out.fz 1;clear HS P3 G0 EW m1 b SZ k1 k2 k3 k4 k5;go_wp2;exact bodyPost_ret (zfB Tryz.results119 (P31.out.set _ _) _ (by rfl)) rfl ⟨_,rfl,(HM.out.mono (Nat.le_of_lt HB.out)).box P31.out _ _,bset (bset G1.out (Nat.le_refl _)) (Nat.le_refl _)⟩
abbrev fnPick2 (pb ib : Nat) : Value := .func (.func 119) #[] #[.pointer (some ⟨pb,0,none⟩),.pointer (some ⟨ib,0,none⟩)]
theorem eachPick2_any {w : World} {B pb ib k i : Nat} {v jv : Value} {pss : List (List (Value × Value))} {zss : List (List Int)} {js : List Nat} (hj : In9 w jv (js.map (fun n : Nat => (n : Int)))) (hp : w.cell? ⟨pb,0,none⟩ = some v) (hv : Prr B w v pss) (hz : Ziss w pss zss k) (hi : w.cell? ⟨ib,0,none⟩ = some (.int .i64 (i : Int))) (hil : i < pss.length) (hjl : ∀ j ∈ js,j < (zss.getD i []).length) :
  Calls Tryz.prog 118 #[jv,fnPick2 pb ib] w (zWE w (js.map (ent9 zss i)) k) := by
 have J0 := hid hj;have V0 := hid hv;have Z0 := hid hz;have P0 := hid hp;have I0 := hid hi;have HIL := hid hil;have HJL : Hid (∀ j (h : j < js.length),js[j] < (zss.getD i []).length) := fun j h => hjl _ (List.getElem_mem h)
 have HMP : Hid (js.map (ent9 zss i) = (List.range js.length).map fun j => ent9 zss i (js.getD j 0)) := by
  unfold Hid
  apply List.ext_getElem
  ·simp
  ·intro j h1 h2
   simp at h1;simp [h1]
 obtain ⟨a0,c0,rfl,hc0,hn0,hf0⟩ := hj.form;obtain ⟨n,hn⟩ : ∃ n,js.length = n := ⟨_,rfl⟩
 rw [List.length_map,hn] at J0 hc0 hn0 ⊢;rw [hn] at HMP;have HN := hid hn;have F0 := hid hf0;clear hj hv hz hp hi hil hjl hf0 hn;generalize js.map (ent9 zss i) = RS at *;go_enter Tryz.func118,Tryz.ntmps118;go_wp2_with (at_make;refine zdA _ rfl _ _ rfl _ _ n n rfl rfl rfl rfl (Nat.le_refl _) (by omega) ?_)
 intro w1 hrow hb1 hsz1;have H0 : Hid (zsE w w.heap.size n (fun j => ent9 zss i (js.getD j 0)) k n (.int .i64 0) w1) := ⟨0,rfl,Nat.zero_le _,by omega,Fil.start hrow _ _,hb1⟩
 clear hrow hb1 hsz1;go_wp2_with fail
 go_loopg [13] n (fun gk s13 wx => zsE w w.heap.size n (fun j => ent9 zss i (js.getD j 0)) k gk s13 wx)
 case atStart => exact H0.out
 case round =>
  clear H0;obtain ⟨t,rfl,hin,hg,hfil,hG⟩ := hrel;have FI := hid hfil;have G := hid hG;have HG := hid hg;clear hfil hG hg
  by_cases hlt : t < n
  ·have hlt' : (t : Int) < (n : Int) := by omega
   obtain ⟨b1,o1,rfl⟩ := F0.out (fun e => by have := HN.out;simp at e;rw [e] at this;simp at this;omega);have ht : t < js.length := by rw [HN.out];exact hlt
   have k0 := (J0.out.now G.out).at (i := t) (by rw [List.length_map];exact ht);rw [List.getElem_map] at k0;have HS := hid (pick11_any (cnow G.out P0.out) (V0.out.now G.out) (Z0.out.now G.out) (cnow G.out I0.out) HIL.out (HJL.out t ht));have ej : js[t] = js.getD t 0 := by simp [ht]
   rw [ej] at k0 HS;have hw := zjA (i := t) (by omega);clear ej ht;generalize hjt : js.getD t 0 = jt at *;have HJT := hid hjt;clear hjt;go_wp2_with fail;refine HS.out.mono ?_;rintro e w1 ⟨r,rfl,m1,b⟩;have FI1 := hid (FI.out.step b);have G1 := hid (below_step G.out b);have M1 := hid m1.zc;obtain ⟨nr,xr,ar,cr,rfl⟩ := m1.parts;obtain ⟨m0,am,lm,cm,e0,e1,e2,e3⟩ := FI1.out.cells hlt;have HN1 : Hid (zsE w w.heap.size n (fun j => ent9 zss i (js.getD j 0)) k (n - (t + 1)) (.int .i64 ((t + 1 : Nat) : Int)) ((w1.setCell ⟨w.heap.size,t * 2,none⟩ (.bool nr)).setCell ⟨w.heap.size,t * 2 + 1,none⟩ (.slice ar xr.length cr))) :=
    ⟨t + 1,rfl,by omega,rfl,FI1.out.put hlt (by rw [HJT.out];exact M1.out),bset (bset G1.out (Nat.le_refl _)) (Nat.le_refl _)⟩
   have HMM : Hid (n - (t + 1) < gk) := by unfold Hid;rw [HG.out];omega
   clear HS FI G HG FI1 G1 M1 m1 b k0 HJT;go_wp2_with fail;go_roundg (n - (t + 1))
   case rel => exact HN1.out
   case measure => exact HMM.out
  ·have hlt' : ¬ (t : Int) < (n : Int) := by omega
   obtain rfl : t = n := by omega
   obtain ⟨ps,p1,p2⟩ := FI.out.done (B := w.heap.size) (Nat.le_refl _) (by omega);rw [← HMP.out] at p2;have FIN : Hid (zWE w RS k (.returned (.slice (some ⟨w.heap.size,0,none⟩) t t)) wr) := ⟨_,ps,rfl,p1,p2,G.out⟩
   clear FI G HG p1 p2;go_wp2;go_ret;exact FIN.out
theorem pick1_any {w : World} {B pb cb k i : Nat} {v jv : Value} {pss : List (List (Value × Value))} {zss : List (List Int)} {js : List Nat} (hc : w.cell? ⟨cb,0,none⟩ = some jv) (hj : In9 w jv (js.map (fun n : Nat => (n : Int)))) (hp : w.cell? ⟨pb,0,none⟩ = some v) (hv : Prr B w v pss) (hz : Ziss w pss zss k) (hil : i < pss.length) (hjl : ∀ j ∈ js,j < (zss.getD i []).length) :
  Calls Tryz.prog 117 #[.int .i64 (i : Int),.pointer (some ⟨cb,0,none⟩),.pointer (some ⟨pb,0,none⟩)] w (zWE w (js.map (ent9 zss i)) k) := by
 obtain ⟨W0,hW⟩ : ∃ W0,w.alloc (.cells #[.int .i64 (i : Int)] 3) = W0 := ⟨_,rfl⟩
 obtain ⟨b0,sz0⟩ := alo1 w (.cells #[.int .i64 (i : Int)] 3);rw [hW] at b0 sz0;have hi : W0.cell? ⟨w.heap.size,0,none⟩ = some (.int .i64 (i : Int)) := by rw [← hW];exact (Cel.new w 3 [.int .i64 (i : Int)]).at (i := 0) rfl
 have HC := hid (eachPick2_any (hj.now b0) (cnow b0 hp) (hv.now b0) (hz.now b0) hi hil hjl);obtain ⟨a0,c0,rfl,-,-,-⟩ := hj.form;have k0 : (w.alloc (.cells #[.int .i64 (i : Int)] 3)).cell? ⟨cb,0,none⟩ = some (.slice a0 (js.map (fun n : Nat => (n : Int))).length c0) := by rw [hW];exact cnow b0 hc
 have G0 := hid b0;have EW := hid hW;clear hc hj hp hv hz hil hjl b0 hW sz0 hi;generalize js.map (ent9 zss i) = RS at *;generalize (js.map (fun n : Nat => (n : Int))).length = lj at *;go_enter Tryz.func117,Tryz.ntmps117;go_wp2_with fail;rw [EW.out];refine HC.out.mono ?_;rintro e w1 ⟨u,ps,rfl,p1,p2,b⟩;have FIN : Hid (zWE w RS k (.returned u) w1) := ⟨u,ps,rfl,p1.mono G0.out.size,p2,below_step G0.out b⟩
 clear HC G0 EW p1 p2 b k0;go_wp2;go_ret;exact FIN.out
end Go.Proofs.YtfeofdpnhhiclaaGreat
