/-
 QDt13ToSl13: Dt13, Vl13, Srt13, Cr13, Sl13, joined.
-/
import Derived.Test.YtfeofdpnhhiclaaGreatQDe13
import Derived.Test.YtfeofdpnhhiclaaGreatQLm6ToChkN9
import Derived.Test.YtfeofdpnhhiclaaGreatQSr13ToRl17
import Derived.Shelf.Sort.Plain
import Derived.Test.YtfeofdpnhhiclaaGreatQDu12ToSt13
import Derived.Sort.OwnSortedInts
import Derived.Shelf.Slices.In.SortNone

set_option maxRecDepth 100000
set_option maxHeartbeats 6400000
set_option linter.unusedVariables false
set_option linter.unusedSimpArgs false
namespace Go.Proofs.YtfeofdpnhhiclaaGreat
open Go.RowKit
theorem Stz.le {A : Nat → Nat → Int} {n i : Nat} {rs cs : List Nat} {odd : Bool} (h : Stz A n i rs cs odd) : rs.length ≤ i := by
 have : rs.length ≤ (List.range i).length := List.Nodup.length_le_of_subset (h.up.imp fun hab => Nat.ne_of_lt hab) fun r hr => by simpa using h.lt r hr
 simpa using this
open Go.RowKit Go.Shelf
attribute [local go_sem] Oper.semAt_some
abbrev nob : Nat → Prop := fun _ => False
theorem values1_in {B l n Bc K cap : Nat} {ca : Option Addr} {cs : List Nat} {W : World} (hn : 1 ≤ n) (J : Nat → World → Prop)
  (hbox : W.cell? ⟨Bc,0,none⟩ = some (.slice ca K cap)) (hK : K ≤ 64) (hcap : K ≤ cap) (hcells : 0 < K → ∃ g,ca = some ⟨g,0,none⟩ ∧ g < B ∧ ∀ i,i < K → W.cell? ⟨g,i,none⟩ = some (.int .i64 (cs.getD i 0 : Nat))) (h0 : J 0 W)
  (hY : ∀ s X,J s X → s < K → YieldAt Fence.wide (n - 1) Tryz.prog l #[.int .i64 (cs.getD s 0 : Nat)] X fun e Y => e = .returned (.bool true) ∧ J (s + 1) Y ∧ KpL nob B X Y) :
  CallsIn Fence.wide n Tryz.prog 89 #[.func (.yield l) #[] #[],.pointer (some ⟨Bc,0,none⟩)] W fun e Y => (∃ v,e = .returned v) ∧ J K Y := by
 have HC := hid hcells;have H0 := hid h0;have HY := hid hY;clear hcells h0 hY;refine callsIn_of_wp Tryz.func89 rfl trivial ?_ rfl;simp only [Tryz.ntmps89,List.size_toArray,List.length_cons,List.length_nil,Nat.reduceAdd,Nat.reduceSub,Array.replicate_succ,Array.replicate_zero,List.push_toArray,List.append_toArray,List.nil_append,List.cons_append];gi_wp2_with fail
 gi_loopw [7] (fun i wr => ∃ t : Nat,t ≤ K ∧ i = .int .i64 (t : Int) ∧ J t wr ∧ KpL nob B W wr)
  (fun i _ => ((K : Int) - (intOf i)).toNat)
 case atStart => exact ⟨0,Nat.zero_le _,rfl,H0.out,KpL.refl _ _ _⟩
 case round =>
  obtain ⟨t,htr,rfl,hj,hk⟩ := hrel;have JJ := hid hj;have KK := hid hk;clear hj hk H0
  by_cases hlt : t < K
  ·have hlt' : (t : Int) < (K : Int) := by omega
   obtain ⟨g,rfl,hgB,hel⟩ := HC.out (by omega);have k0 := KK.out.cell (hel t hlt) hgB (fun q => q);obtain ⟨o,ho⟩ : ∃ o,cs.getD t 0 = o := ⟨_,rfl⟩
   have hy := HY.out t wr JJ.out hlt;rw [ho] at k0 hy;obtain ⟨fn,tmps,assign,body,hy,hR⟩ := hy;have hw := zjA (i := t) (by omega);clear hel ho JJ;gi_wp2;refine hR.mono ?_;rintro e W4 ⟨rfl,hj4,hk4⟩;gi_wp2;go_roundw
   case rel => exact ⟨t + 1,by omega,rfl,hj4,KK.out.trans hk4⟩
   case measure => simp [intOf];omega
  ·have hlt' : ¬ (t : Int) < (K : Int) := by omega
   obtain rfl : t = K := by omega
   gi_wp2;go_end0;exact ⟨⟨_,rfl⟩,JJ.out⟩
def VlJ (w : World) (cs : List Nat) (s : Nat) (W : World) : Prop := ∃ lv,Cel W w.heap.size 67 [lv] ∧ Ivs (w.heap.size + 1) W lv (cs.take s) ∧ s ≤ cs.length ∧ Below w.heap.size w W
theorem VlJ.own {w : World} {cs : List Nat} {B : Nat} (hB : w.heap.size ≤ B) : OwnFrom B (VlJ w cs) := fun s W W' row hs hg hr => by
 obtain ⟨lv,h1,h2,h3,h4⟩ := hs;have hk := zPB hg (fun r e => (hr r e).2);exact ⟨lv,hk.cel h1,h2.keep fun b L _ e => hk.2 b _ e rfl,h3,h4.grown hg h4.size (fun k e => Nat.le_trans hB (hr k e).1)⟩
theorem appendSeq13 {w : World} {B Bc : Nat} {cv : Value} {cs : List Nat} (hv : Ivs B w cv cs) (hb : w.cell? ⟨Bc,0,none⟩ = some cv) (hl : cs.length ≤ 64) :
  Calls Tryz.prog 112 #[.slice none 0 0,.func (.func 89) #[] #[.pointer (some ⟨Bc,0,none⟩)]] w fun e w' => ∃ v,e = .returned v ∧ Ivs w.heap.size w' v cs ∧ Below w.heap.size w w' := by
 refine (callsIn_wide (n := 5)).1 ?_;obtain ⟨ca,cap,rfl,hcap,hca⟩ := hv.form;obtain ⟨K,hK⟩ : ∃ K,cs.length = K := ⟨_,rfl⟩
 rw [hK] at hv hb hcap hca hl;obtain ⟨W0,hW⟩ : ∃ W0,w.alloc (.cells #[.slice none 0 0] 67) = W0 := ⟨_,rfl⟩
 obtain ⟨b0,sz0⟩ := alo1 w (.cells #[.slice none 0 0] 67);rw [hW] at b0 sz0;have PL : Hid (Cel W0 w.heap.size 67 [.slice none 0 0]) := by unfold Hid;rw [← hW];exact Cel.new w _ _
 have HB := hid (cnow b0 hb);have hblt := World.block_lt_of_cell? w _ hb;have HCE : Hid (0 < K → ∃ g,ca = some ⟨g,0,none⟩ ∧ g < w.heap.size ∧ ∀ i,i < K → w.cell? ⟨g,i,none⟩ = some (.int .i64 (cs.getD i 0 : Nat))) := fun q => by
  obtain ⟨g,rfl⟩ := hca q;exact ⟨g,rfl,(Array.getElem?_eq_some_iff.1 (hv.blk rfl).2.choose_spec).1,fun i hi => hv.at (by omega)⟩
 have HK := hid hK;have HBW := hid hb;have HLT : Hid (Bc < w.heap.size) := hblt;have G0 := hid b0;have EW := hid hW;have SZ := hid sz0;clear hv hb hca b0 sz0 hW hK hblt;refine callsIn_of_wp_marks Tryz.func112 rfl trivial ?_ rfl;simp only [Tryz.ntmps112,List.size_toArray,List.length_cons,List.length_nil,Nat.reduceAdd,Nat.reduceSub,Array.replicate_succ,Array.replicate_zero,List.push_toArray,List.append_toArray,List.nil_append,List.cons_append];gi_wp2_with fail;rw [EW.out];clear EW;have hsz := SZ.out;refine zoF (σ := Nat) (α := Nat) (by decide) rfl (enters_of Tryz.func89 (by kernel_rfl) rfl) (fun o => #[.int .i64 (o : Int)]) (fun _ => rfl)
  (VlJ w cs) (VlJ.own (by omega)) (fun s o _ => o = cs.getD s 0 ∧ s < K) (fun s x => fun _ _ _ _ h _ _ => h) (fun s x => s + 1)
  (fun s => KpL nob w.heap.size) (fun h h' => h.trans h') (fun s W l o o' _ h1 h2 => KpL.put h1 h2) (fun s => s = 0) (fun s => s = K) ?ini ?it (fun x => { tmps := #[.slice none 0 0,.func (.func 89) #[] #[.pointer (some ⟨Bc,0,none⟩)],.pointer (some ⟨w.heap.size,0,none⟩),undef,.slice none 0 0,.int .i64 (x : Int),.func (.func 89) #[] #[.pointer (some ⟨Bc,0,none⟩)],.int .i64 (x : Int),undef,undef,undef,undef,undef],defers := [] }) ?assign ?body ?done
 case ini =>
  rintro s rfl;exact ⟨_,PL.out,Ivs.nil _ _,Nat.zero_le _,G0.out⟩
 case it =>
  intro l J' W hW hJ hJb hJ0 hY;have hbW : W.cell? ⟨Bc,0,none⟩ = some (.slice ca K cap) := cnow hW HB.out;refine (values1_in (B := w.heap.size) (cs := cs) (by decide) J' hbW hl hcap (fun q => ?_) (hJ0 0 rfl) (fun s X h1 h2 => hY s _ X h1 ⟨rfl,h2⟩)).mono (fun e Y h => ⟨h.1,K,rfl,h.2⟩);obtain ⟨g,e,hg,hc⟩ := HCE.out q;exact ⟨g,e,hg,fun i hi => cnow hW (cnow G0.out (hc i hi))⟩
 case assign =>
  intro l x W K hK;have HKK := hid hK;clear hK;gi_wp2;exact HKK.out
 case body =>
  rintro l s o W ⟨lv,h1,h2,h3,h4⟩ ⟨rfl,hsK⟩;obtain ⟨V,hV⟩ : ∃ V,W.alloc (.cells #[.int .i64 (cs.getD s 0 : Nat)] 3) = V := ⟨_,rfl⟩
  obtain ⟨bv,szv⟩ := alo1 W (.cells #[.int .i64 (cs.getD s 0 : Nat)] 3);rw [hV] at bv szv;have CV : Hid (V.cell? ⟨W.heap.size,0,none⟩ = some (.int .i64 (cs.getD s 0 : Nat))) := by unfold Hid;rw [← hV];exact (Cel.new W 3 [.int .i64 (cs.getD s 0 : Nat)]).at (i := 0) rfl
  have X1 := hid (h1.step bv);have I2 := hid (h2.now bv);have B4 := hid (below_step h4 bv);have BV := hid bv;have y0 := h1.at (i := 0) rfl;have HLS : Hid ((cs.take s).length ≤ 1000000) := by unfold Hid;rw [List.length_take];omega
  have HTS : Hid (cs.take s ++ [cs.getD s 0] = cs.take (s + 1)) := by
   unfold Hid;have hs' : s < cs.length := by rw [HK.out];exact hsK
   rw [List.take_succ_eq_append_getElem hs'];simp [hs']
  have HVS : Hid (w.heap.size + 1 ≤ V.heap.size) := by unfold Hid;have := h1.blk;omega
  have EV := hid hV;have HSK := hid hsK;have HLB := hid h1.blk;refine wpIn_block (zmB (zmC (by kernel_rfl)) (by rintro ⟨a,w,h⟩;cases h.1) ?_);clear h1 h2 h3 h4 bv szv hV hsK;dsimp only;generalize cs.getD s 0 = o at *;obtain ⟨tk,htk⟩ : ∃ tk,cs.take s = tk := ⟨_,rfl⟩
  rw [htk] at I2 HLS HTS;clear htk;go_wp2_with (at_builtin;rw [EV.out];refine zCB V rfl (.tmp 8) (.tmp 10) rfl (w.heap.size + 1) lv tk o rfl I2.out W.heap.size rfl CV.out HLS.out HVS.out ?_)
  intro g' cap' w3 hI hg hb;have ty := Ty.grown I2.out hg.out;have Y1 := hid (X1.out.ty13 ty (by decide));have y2 := Y1.out.at (i := 0) rfl;have f2 := Y1.out.fz 0;obtain ⟨fl,hfl⟩ : ∃ fl,tk.length + 1 = fl := ⟨_,rfl⟩
  rw [hfl] at hI ⊢;obtain ⟨U,hU⟩ : ∃ U,w3.setCell ⟨w.heap.size,0,none⟩ (.slice (some ⟨g',0,none⟩) fl cap') = U := ⟨_,rfl⟩
  have hown : ∀ b,lv.ownBlock = some b → w.heap.size + 1 ≤ b := fun b e => (I2.out.blk e).1
  have FJ : Hid (VlJ w cs (s + 1) U) := by
   unfold Hid;rw [← hU];refine ⟨_,Y1.out.set 0 _,?_,by have := HSK.out;have := HK.out;omega,bset ?_ (Nat.le_refl _)⟩
   ·have := Ivs.keep (w' := w3.setCell ⟨w.heap.size,0,none⟩ (.slice (some ⟨g',0,none⟩) fl cap')) hI.out fun b L hb' e => (Ty.set (u := .slice (some ⟨g',0,none⟩) fl cap') (i := 0) Y1.out).2 b _ _ _ e (by decide)
    rw [HTS.out] at this;exact this
   ·exact B4.out.trans ⟨hg.out.os,hg.out.tape,hg.out.output,hg.out.size,fun b hb' => hg.out.block b (Nat.lt_of_lt_of_le hb' B4.out.size) (fun e => by have := hown b e.symm;omega)⟩
  have FK : Hid (KeepsFrom (w.heap.size + 1) W U) := by
   unfold Hid;rw [← hU];refine ⟨by simp;exact Nat.le_trans BV.out.size hg.out.size,fun j o' hj e ho => ?_⟩;have e1 := (BV.out.block j (Array.getElem?_eq_some_iff.1 e).1).trans e;have e2 := (hg.out.block j (Array.getElem?_eq_some_iff.1 e1).1 (fun q' => by
    obtain ⟨_,L',q''⟩ := I2.out.blk q'.symm;rw [e1,Option.some.injEq] at q'';subst q'';cases ho)).trans e1
   refine (Below.heap_setCell w3 _ _ j (fun q' => ?_)).trans e2;have q'' : j = w.heap.size := by simpa using q'
   omega
  have FP : Hid (KpL nob w.heap.size W U) := by
   unfold Hid;rw [← hU];refine ⟨by simp;exact Nat.le_trans BV.out.size hg.out.size,fun j o' hj _ e ho => ?_⟩;have e1 := (BV.out.block j (Array.getElem?_eq_some_iff.1 e).1).trans e;have e2 := (hg.out.block j (Array.getElem?_eq_some_iff.1 e1).1 (fun q' => by have := hown j q'.symm;omega)).trans e1;exact (Below.heap_setCell w3 _ _ j (fun q' => Nat.ne_of_lt hj (by simpa using q'))).trans e2
  have EU := hid hU;clear hU hI hg hb X1 I2 B4 CV HLS HTS HVS EV y0 Y1 ty hown;go_wp2;rw [EU.out];exact ⟨trivial,FK.out,FJ.out,FP.out⟩
 case done =>
  rintro D s W hDs rfl ⟨lv,h1,h2,h3,h4⟩ hD;have x0 := h1.at (i := 0) rfl;have kg := zPB (grownBy_putObj' W D (.deferred none)) (fun r e => by cases e;exact ⟨_,hD,rfl⟩);have BB := h4.trans (belowK_b (w := w) (Nat.le_refl _) _ D _ (.deferred none) (by have := G0.out.size;omega) hD rfl rfl);have HZ : Hid (∃ v,Ending.returned lv = .returned v ∧ Ivs w.heap.size (W.putObj D (.deferred none)) v cs ∧ Below w.heap.size w (W.putObj D (.deferred none))) := by
   rw [List.take_of_length_le (by rw [HK.out];exact Nat.le_refl _)] at h2;have h2' : Ivs w.heap.size W lv cs := zTC h2 (Nat.le_succ _);exact ⟨lv,rfl,h2'.keep fun b L _ e => kg.2 b _ e rfl,BB⟩
  have HKD := hid hD;clear h1 h2 h3 h4 kg BB hD;gi_wp2;refine ⟨by simp,.inl ⟨_,_,rfl,run_takeDeferred HKD.out,?_⟩⟩;exact ⟨_,by simp [results,Tryz.results112,go_sem],HZ.out⟩
theorem collect13 {w : World} {B Bc : Nat} {cv : Value} {cs : List Nat} (hv : Ivs B w cv cs) (hb : w.cell? ⟨Bc,0,none⟩ = some cv) (hl : cs.length ≤ 64) :
  Calls Tryz.prog 87 #[.func (.func 89) #[] #[.pointer (some ⟨Bc,0,none⟩)]] w fun e w' => ∃ v,e = .returned v ∧ Ivs w.heap.size w' v cs ∧ Below w.heap.size w w' := by
 have HA := hid (appendSeq13 hv hb hl);clear hv hb;go_enter Tryz.func87,Tryz.ntmps87;go_wp2_with fail;refine HA.out.mono ?_;rintro e w1 ⟨v,rfl,h1,h2⟩;obtain ⟨a,cap,rfl,-,-⟩ := h1.form;have FIN : Hid (∃ u,Ending.returned (.slice a cs.length cap) = .returned u ∧ Ivs w.heap.size w1 u cs ∧ Below w.heap.size w w1) := ⟨_,rfl,h1,h2⟩
 clear h1 h2 HA;generalize cs.length = K at *;go_wp2;go_ret;exact FIN.out
end Go.Proofs.YtfeofdpnhhiclaaGreat
namespace Go.Proofs.YtfeofdpnhhiclaaGreat
open Go.RowKit
def ren13 : Go.Shelf.Ren := ⟨fun | 125 => 114 | 128 => 141 | 129 => 48 | 189 => 88 | 215 => 72 | 216 => 138 | 257 => 113 | 294 => 132 | 295 => 133 | 296 => 134 | 297 => 135 | 298 => 136 | 299 => 137 | 300 => 139 | 301 => 140 | 328 => 154 | 329 => 155 | 330 => 156 | 331 => 157 | 332 => 158 | 343 => 170 | n => n,fun | 0 => 0 | 3 => 3 | 4 => 4 | 5 => 5 | 9 => 9 | 28 => 67 | 46 => 107 | 51 => 169 | 53 => 38 | 131 => 166 | 182 => 161 | 183 => 162 | 218 => 179 | 222 => 183 | 228 => 195 | 229 => 196 | n => n,fun n => n⟩
theorem zXG : Go.Proofs.Lays.n189 Tryz.prog ren13 := {
 mixed := by kernel_rfl
 f125 := Tryz.func114.trans (congrArg some (by kernel_rfl))
 f128 := Tryz.func141.trans (congrArg some (by kernel_rfl))
 f129 := Tryz.func48.trans (congrArg some (by kernel_rfl))
 f189 := Tryz.func88.trans (congrArg some (by kernel_rfl))
 f215 := Tryz.func72.trans (congrArg some (by kernel_rfl))
 f216 := Tryz.func138.trans (congrArg some (by kernel_rfl))
 f257 := Tryz.func113.trans (congrArg some (by kernel_rfl))
 f294 := Tryz.func132.trans (congrArg some (by kernel_rfl))
 f295 := Tryz.func133.trans (congrArg some (by kernel_rfl))
 f296 := Tryz.func134.trans (congrArg some (by kernel_rfl))
 f297 := Tryz.func135.trans (congrArg some (by kernel_rfl))
 f298 := Tryz.func136.trans (congrArg some (by kernel_rfl))
 f299 := Tryz.func137.trans (congrArg some (by kernel_rfl))
 f300 := Tryz.func139.trans (congrArg some (by kernel_rfl))
 f301 := Tryz.func140.trans (congrArg some (by kernel_rfl))
 f328 := Tryz.func154.trans (congrArg some (by kernel_rfl))
 f329 := Tryz.func155.trans (congrArg some (by kernel_rfl))
 f330 := Tryz.func156.trans (congrArg some (by kernel_rfl))
 f331 := Tryz.func157.trans (congrArg some (by kernel_rfl))
 f332 := Tryz.func158.trans (congrArg some (by kernel_rfl))
 f343 := Tryz.func170.trans (congrArg some (by kernel_rfl))
 t0 := by kernel_rfl
 a0 := fun w => by kernel_rfl
 z0 := fun w => by kernel_rfl
 v0 := fun w => by kernel_rfl
 t3 := Tryz.underlying3
 a3 := Tryz.isAgg3
 z3 := Tryz.sizeOf3
 v3 := Tryz.zeroValue3
 t4 := Tryz.underlying4
 a4 := Tryz.isAgg4
 z4 := Tryz.sizeOf4
 v4 := Tryz.zeroValue4
 t5 := Tryz.underlying5
 a5 := Tryz.isAgg5
 z5 := Tryz.sizeOf5
 v5 := Tryz.zeroValue5
 t9 := Tryz.underlying9
 a9 := Tryz.isAgg9
 z9 := Tryz.sizeOf9
 v9 := Tryz.zeroValue9
 t28 := Tryz.underlying67
 a28 := Tryz.isAgg67
 z28 := Tryz.sizeOf67
 v28 := Tryz.zeroValue67
 t46 := Tryz.underlying107
 a46 := Tryz.isAgg107
 z46 := Tryz.sizeOf107
 v46 := Tryz.zeroValue107
 t51 := Tryz.underlying169
 a51 := Tryz.isAgg169
 z51 := Tryz.sizeOf169
 v51 := Tryz.zeroValue169
 t53 := Tryz.underlying38
 a53 := Tryz.isAgg38
 z53 := Tryz.sizeOf38
 v53 := Tryz.zeroValue38
 t131 := Tryz.underlying166
 a131 := Tryz.isAgg166
 z131 := Tryz.sizeOf166
 v131 := Tryz.zeroValue166
 t182 := Tryz.underlying161
 a182 := Tryz.isAgg161
 z182 := Tryz.sizeOf161
 v182 := Tryz.zeroValue161
 t183 := Tryz.underlying162
 a183 := Tryz.isAgg162
 z183 := Tryz.sizeOf162
 v183 := Tryz.zeroValue162
 t218 := Tryz.underlying179
 a218 := Tryz.isAgg179
 z218 := Tryz.sizeOf179
 v218 := Tryz.zeroValue179
 t222 := Tryz.underlying183
 a222 := Tryz.isAgg183
 z222 := Tryz.sizeOf183
 v222 := Tryz.zeroValue183
 t228 := Tryz.underlying195
 a228 := Tryz.isAgg195
 z228 := Tryz.sizeOf195
 v228 := Tryz.zeroValue195
 t229 := Tryz.underlying196
 a229 := Tryz.isAgg196
 z229 := Tryz.sizeOf196
 v229 := Tryz.zeroValue196 }
end Go.Proofs.YtfeofdpnhhiclaaGreat
namespace Go.Proofs.YtfeofdpnhhiclaaGreat
theorem zQH : ∀ {l m : List Int},l.Pairwise (· < ·) → m.Pairwise (· < ·) → (∀ x,x ∈ l ↔ x ∈ m) → l = m
 | [],[],_,_,_ => rfl
 | [],b :: m,_,_,h => by have := (h b).2 (by simp);simp at this
 | a :: l,[],_,_,h => by have := (h a).1 (by simp);simp at this
 | a :: l,b :: m,hl,hm,h => by
  rw [List.pairwise_cons] at hl hm;have e : a = b := by
   rcases List.mem_cons.1 ((h a).1 (by simp)) with q | q
   ·exact q
   ·rcases List.mem_cons.1 ((h b).2 (by simp)) with q2 | q2
    ·exact q2.symm
    ·have := hm.1 a q;have := hl.1 b q2;omega
  subst e
  congr 1
  refine zQH hl.2 hm.2 fun x => ⟨fun hx => ?_,fun hx => ?_⟩
  ·rcases List.mem_cons.1 ((h x).1 (by simp [hx])) with q | q
   ·subst q;have := hl.1 x hx;omega
   ·exact q
  ·rcases List.mem_cons.1 ((h x).2 (by simp [hx])) with q | q
   ·subst q;have := hm.1 x hx;omega
   ·exact q
theorem zvF (c : Nat) : ∀ l : List Nat,(ins c l).Perm (c :: l)
 | [] => List.Perm.refl _
 | x :: l => by
  unfold ins
  split
  ·exact List.Perm.refl _
  ·exact ((zvF c l).cons x).trans (List.Perm.swap _ _ _)
theorem zMF : ∀ cs l : List Nat,(cs.foldl (fun l c => ins c l) l).Perm (cs ++ l)
 | [],l => List.Perm.refl _
 | c :: cs,l => by
  rw [List.foldl_cons];exact ((zMF cs (ins c l)).trans ((zvF c l).append_left cs)).trans List.perm_middle
theorem srt_perm (cs : List Nat) : (srt cs).Perm cs := by
 have := zMF cs [];rw [List.append_nil] at this;exact this
theorem sorted_srt {cs : List Nat} (h1 : (srt cs).Pairwise (· < ·)) (h2 : (srt cs).length = cs.length) (h3 : ∀ c,c ∈ srt cs ↔ c ∈ cs) : (cs.map fun (a : Nat) => (a : Int)).mergeSort (fun x y => decide (x ≤ y)) = (srt cs).map fun (a : Nat) => (a : Int) := by
 have hn : cs.Nodup := (srt_perm cs).nodup_iff.1 (h1.imp fun hab => Nat.ne_of_lt hab);have hperm := List.mergeSort_perm (cs.map fun (a : Nat) => (a : Int)) (fun x y => decide (x ≤ y));have hs : ((cs.map fun (a : Nat) => (a : Int)).mergeSort (fun x y => decide (x ≤ y))).Pairwise fun a b => decide (a ≤ b) = true := List.pairwise_mergeSort (fun a b c h1 h2 => by simp at *;omega) (fun a b => by simp;omega) _
 have hnd : ((cs.map fun (a : Nat) => (a : Int)).mergeSort (fun x y => decide (x ≤ y))).Nodup := hperm.nodup_iff.2 (by
  refine List.Pairwise.map _ (fun a b hab => ?_) hn;omega)
 refine zQH ?_ ?_ fun x => ?_
 ·have := hs.and hnd
  exact this.imp fun ⟨p,q⟩ => by simp at p;omega
 ·rw [List.pairwise_map]
  exact h1.imp fun hab => by omega
 ·rw [hperm.mem_iff]
  simp only [List.mem_map];exact ⟨fun ⟨a,ha,e⟩ => ⟨a,(h3 a).2 ha,e⟩,fun ⟨a,ha,e⟩ => ⟨a,(h3 a).1 ha,e⟩⟩
open Go.RowKit Go.Shelf
theorem sort13 {w : World} {B : Nat} {v : Value} {l : List Nat} (hv : Ivs B w v l) (hl : l.length ≤ 64) :
  Calls Tryz.prog 88 #[v] w fun e w' => e = .returned (.tuple #[]) ∧ w.grownBy w' v.ownBlock ∧ w'.ownsRow B 3 1 v l.length (((l.map fun (a : Nat) => (a : Int)).mergeSort fun x y => decide (x ≤ y)).map (Value.int .i64)) := by
 obtain ⟨q1,⟨rfl,q3⟩ | ⟨g,cap,cur,rfl,q3,q4,q5,q6,q7,q8⟩⟩ := hv
 ·obtain rfl : l = [] := List.eq_nil_of_length_eq_zero q3
  refine (Any.slices_Sort_int_none zXG none 0 w).mono ?_;rintro e w' ⟨rfl,rfl⟩;exact ⟨rfl,⟨rfl,rfl,rfl,Nat.le_refl _,fun _ _ _ => rfl⟩,by simp,.inl ⟨rfl,rfl⟩⟩
 ·have e1 : (l.map fun (a : Nat) => (a : Int)).length = l.length := by simp
  have hH : Sort.Holds (Value.int .i64) w g 0 (l.map fun (a : Nat) => (a : Int)).toArray := holds_of_blockI q4 (by
   rw [e1];rw [Nat.mul_one] at q8;rw [q8]
   simp)
  have hc := Any.slices_Sort_int zXG g 0 cap (l.map fun (a : Nat) => (a : Int)) w hH (Array.getElem?_eq_some_iff.1 q4).1 (by rw [e1];omega);rw [e1] at hc;refine hc.mono ?_;rintro e w' ⟨rfl,n,os,rfl⟩;refine ⟨rfl,grownBy_sortedI _,?_⟩;have := ownsRow_sortedI (w := w) (base := B) (g := g) (cap := cap) (n := n) (e := 3) (os := os) (cur := cur) (ss := l.map fun (a : Nat) => (a : Int)) (ts := (l.map fun (a : Nat) => (a : Int)).mergeSort fun x y => decide (x ≤ y)) (by simp) q3 q4 (by rw [e1];exact q5) q6 q7;rw [e1] at this;exact this
theorem values13 {w : World} {a : Option Addr} {l c : Nat} : Calls Tryz.prog 62 #[.slice a l c] w fun e w' => e = .returned (.func (.func 89) #[] #[.pointer (some ⟨w.heap.size,0,none⟩)]) ∧ w' = w.alloc (.cells #[.slice a l c] 67) := by
 go_enter Tryz.func62,Tryz.ntmps62;go_wp2;go_ret;exact ⟨rfl,rfl⟩
theorem sorted13 {w : World} {B Bc : Nat} {cv : Value} {cs : List Nat} (hv : Ivs B w cv cs) (hb : w.cell? ⟨Bc,0,none⟩ = some cv) (hl : cs.length ≤ 64) (hs : (srt cs).Pairwise (· < ·) ∧ (srt cs).length = cs.length ∧ (∀ c,c ∈ srt cs ↔ c ∈ cs)) :
  Calls Tryz.prog 61 #[.func (.func 89) #[] #[.pointer (some ⟨Bc,0,none⟩)]] w fun e w' => ∃ v,e = .returned v ∧ Ivs w.heap.size w' v (srt cs) ∧ Below w.heap.size w w' := by
 have HC := hid (collect13 hv hb hl);have HS := hid (sorted_srt hs.1 hs.2.1 hs.2.2);have HL := hid hl;have HSL := hid hs.2.1;clear hv hb hs hl;go_enter Tryz.func61,Tryz.ntmps61;go_wp2_with fail;refine HC.out.mono ?_;rintro e w1 ⟨v,rfl,h1,b⟩;have HSO := hid (sort13 h1 HL.out);have H1 := hid h1;have BB := hid b;obtain ⟨a,cap,rfl,-,-⟩ := h1.form;obtain ⟨K,hK⟩ : ∃ K,cs.length = K := ⟨_,rfl⟩
 have HK := hid hK;rw [hK] at HSO H1 ⊢;clear h1 b HC hK;go_wp2_with fail;refine HSO.out.mono ?_;rintro e w2 ⟨rfl,hg,ho⟩;have FIN : Hid (∃ u,Ending.returned (.slice a K cap) = .returned u ∧ Ivs w.heap.size w2 u (srt cs) ∧ Below w.heap.size w w2) := by
  refine ⟨_,rfl,?_,BB.out.trans ⟨hg.os,hg.tape,hg.output,hg.size,fun k hk => hg.block k (Nat.lt_of_lt_of_le hk BB.out.size) (fun e => by have := (H1.out.blk e.symm).1;omega)⟩⟩;unfold Ivs;rw [HS.out] at ho;rw [HSL.out,HK.out];rw [List.map_map] at ho;exact ho
 clear hg ho HSO;go_wp2;go_ret;exact FIN.out
end Go.Proofs.YtfeofdpnhhiclaaGreat
