/-
 QBookToBookWord: Book, Apart, BookWord, joined.
-/
import Derived.Test.YtppddlbkdoebmaaQBook0
import Derived.Deep.AppendLies

set_option maxRecDepth 100000
set_option maxHeartbeats 6400000
set_option linter.unusedVariables false
set_option linter.unusedSimpArgs false
namespace Go.Proofs.Ytppddlbkdoebmaa
open Go.RowKit
theorem Ow.len {w : World} {v : Value} {zs : List Int} (h : Ow w v zs) {m : Nat} (hm : zs.length = m) : ∃ a cap,v = .slice a m cap := by
 subst hm;rcases h.form with ⟨rfl,rfl⟩ | ⟨g,cap,rfl,_⟩
 ·exact ⟨none,0,rfl⟩
 ·exact ⟨_,cap,rfl⟩
theorem Sw.drewN {w : World} {v : Value} {xs : List Int} (h : Sw w v xs) (n : Nat) : Sw (w.drewN n) v xs := h
theorem words_yes {w : World} {bb gb n : Nat} {U : Nat → Value} {L : Nat → Nat} (hB : Bk w bb gb n U L) :
  Calls Try.prog 36 #[.pointer (some ⟨bb,0,none⟩)] w fun e w' => e = .returned (.bool true) ∧ zYA (Blk n U) w w' := by
 have hn := hB.n_le;obtain ⟨cb,hcb⟩ := hB.head;have HH := hid hcb;have HB := hid hB;clear hcb;clear hB;go_enter Try.func36,Try.ntmps36;go_wp2_with fail
 go_loopw [3] (fun i wr => ∃ k : Nat,k ≤ n ∧ i = .int .i64 k ∧ Hid (zZB w wr n U L k 0)) (fun i _ => n - (intOf i).toNat)
 case atStart => exact ⟨0,Nat.zero_le _,rfl,HB.out.marking⟩
 case round =>
  obtain ⟨k,hk,rfl,HM⟩ := hrel;have hc0 : wr.cell? ⟨bb,0,none⟩ = some (.slice (some ⟨gb,0,none⟩) n cb) := (HM.out.1.cell HB.out.bb_lt HB.out.bb_free 0).trans HH.out
  by_cases hlt : k < n
  ·have hc1 : wr.cell? ⟨gb,k,none⟩ = some (U k) := (HM.out.1.cell HB.out.gb_lt HB.out.gb_free k).trans (HB.out.item k hlt)
   obtain ⟨a,cap,hU⟩ : ∃ a cap,U k = .slice a (L k) cap := by obtain ⟨zs,h1,h2⟩ := HB.out.own k hlt;exact h2.len h1
   rw [hU] at hc1;have HU := hid hU;have hLk := HB.out.len k hlt;clear hU;generalize hLm : L k = m at *;have HLM := hid hLm;clear hLm;go_wp2_with fail
   go_loopw [5] (fun j wr => ∃ t : Nat,t ≤ m ∧ j = .int .i64 t ∧ Hid (zZB w wr n U L k t)) (fun j _ => m - (intOf j).toNat)
   case atStart => exact ⟨0,Nat.zero_le _,rfl,HM⟩
   case round =>
    clear hc0 hc1 HM;obtain ⟨t,ht,rfl,HT⟩ := hrel
    rename World => wq
    by_cases htm : t < m
    ·obtain ⟨zs,z1,z2,_,_⟩ := HT.out.2 k hlt
     have hzt : t < zs.length := by rw [z1,HLM.out];exact htm
     rcases z2.form with ⟨_,e⟩ | ⟨g,cap',hu,hgl,hcell,hfr⟩
     ·subst e;simp at hzt
     obtain rfl : a = some ⟨g,0,none⟩ := by have := HU.out.symm.trans hu;simp only [Value.slice.injEq] at this;exact this.1
     have c1 := hcell t hzt;have cf := hfr t;have HS := hid (HT.out.step HB.out hlt (g := g) (by rw [hu];rfl));clear hcell hfr hu z2;generalize zs[t] = z at *;go_wp2_with fail;refine (zND k t (by omega) (by omega) _).mono ?_;rintro e w1 ⟨rfl,rfl⟩;generalize zUB k t = s at *;go_wp2;go_roundw
     case rel => exact ⟨t + 1,by omega,by go_num,HS⟩
     case measure => simp [intOf];omega
    ·have HN := hid (HT.out.next (by rw [HLM.out];omega))
     go_wp2;go_roundw
     case rel => exact ⟨k + 1,by omega,by go_num,HN⟩
     case measure => simp [intOf];omega
  ·go_wp2_with (at_make;refine wpList_make_lists _ rfl _ _ rfl _ _ n n rfl rfl rfl rfl (Nat.le_refl _) (by omega) ?_)
   intro w2 hr2 hb2 hs2;have HG := hid (HM.out.grown (by omega) hr2 hb2);clear hr2 hb2 hs2 hc0 HM;generalize wr.heap.size = gg at *;clear hlt hk;go_wp2_with fail
   go_loopw [7] (fun i wr => ∃ (k : Nat) (Vs : List Value),k ≤ n ∧ i = .int .i64 k ∧ Hid (zCG w wr n U L gg k Vs)) (fun i _ => n - (intOf i).toNat)
   case atStart => exact ⟨0,_,Nat.zero_le _,rfl,HG⟩
   case round =>
    clear HG;obtain ⟨k,Vs,hk,rfl,HG⟩ := hrel
    rename World => wq
    have hc0 : wq.cell? ⟨bb,0,none⟩ = some (.slice (some ⟨gb,0,none⟩) n cb) := (HG.out.1.cell HB.out.bb_lt HB.out.bb_free 0).trans HH.out
    by_cases hlt : k < n
    ·have hc1 : wq.cell? ⟨gb,k,none⟩ = some (U k) := (HG.out.1.cell HB.out.gb_lt HB.out.gb_free k).trans (HB.out.item k hlt)
     obtain ⟨a,cap,hU⟩ : ∃ a cap,U k = .slice a (L k) cap := by obtain ⟨zs,h1,h2⟩ := HB.out.own k hlt;exact h2.len h1
     have HS := hid (HG.out.start hlt);rw [hU] at hc1 HS;have hLk := HB.out.len k hlt;clear hU;generalize hLm : L k = m at *;have HLM := hid hLm;clear hLm;go_wp2_with fail
     go_loopw [8,9] (fun c j wr => ∃ t : Nat,t ≤ 80 ∧ j = .int .i64 t ∧ Hid (zNC w wr n U L gg k t Vs c)) (fun _ j _ => 80 - (intOf j).toNat)
     case atStart => exact ⟨0,Nat.zero_le _,rfl,HS⟩
     case round =>
      clear hc0 hc1 HS HG;obtain ⟨t,ht,rfl,HT⟩ := hrel
      rename World => wp
      obtain ⟨mt,hmt⟩ : ∃ mt,mt = m + t := ⟨_,rfl⟩
      obtain ⟨ac,capc,hcv⟩ := HT.out.2.1.len (m := mt) (by rw [zCC,HLM.out,hmt]);subst hcv;have HMT := hid hmt;have hmt' : mt ≤ 2000000000 := by omega
      clear hmt
      by_cases htm : t < 80
      ·go_wp2_with fail
       refine (zND k mt (by omega) (by omega) _).mono ?_;rintro e w1 ⟨rfl,rfl⟩;have hbel : Below w1.heap.size w1 (w1.alloc (.cells #[.int .u64 (zUB k mt)] 26)) := (Below.refl _ _).alloc (Nat.le_refl _) _;have HBE := hid hbel;have HO : Hid (Ow (w1.alloc (.cells #[.int .u64 (zUB k mt)] 26)) (.slice ac mt capc) (zvA k (L k + t))) := HT.out.2.1.keep fun g hg => hbel.block g (HT.out.2.1.lt hg)
       have HSL : Hid ((zvA k (L k + t)).length + 1 ≤ 17592186044000) := by unfold Hid;rw [zCC,HLM.out];omega
       have HSN : Hid (zUB k mt = zUB k (L k + t)) := by unfold Hid;rw [HMT.out,HLM.out]
       clear hbel;go_wp2_with (at_builtin;refine wpList_append_mark _ rfl (.tmp 65) (.tmp 70) rfl _ (zvA k (L k + t)) (zUB k mt) rfl HO.out HSL.out ⟨w1.heap.size,0,none⟩ rfl (by simp) ?_)
       intro v' w3 ho hat hgr hpre hform;have HN : Hid (zNC w w3 n U L gg k (t + 1) Vs v') := HT.out.step HB.out hlt HBE.out (by rw [← HSN.out];exact ho.out) (by simpa using hat.out) hgr.out hpre.out;clear ho hat hgr hpre hform HO HSL HSN HBE HT;go_wp2;go_roundw
       case rel => exact ⟨t + 1,by omega,by go_num,HN⟩
       case measure => simp [intOf];omega
      ·obtain rfl : t = 80 := by omega
       have HN := hid (HT.out.store HB.out hlt);have hkV : k < Vs.length := by rw [HT.out.1.2.2.2.1];exact hlt
       have c1 := HT.out.1.2.2.1.cell hkV;have cf := HT.out.1.2.2.1.frozen k;generalize Vs[k] = z at *;clear HT;go_wp2;go_roundw
       case rel => exact ⟨k + 1,_,by omega,by go_num,HN⟩
       case measure => simp [intOf];omega
    ·go_wp2_with fail
     clear hc0
     go_loopw [10] (fun i wr => ∃ k : Nat,k ≤ n ∧ i = .int .i64 k ∧ Hid (∃ q,wr = wq.drewN q)) (fun i _ => n - (intOf i).toNat)
     case atStart => exact ⟨0,Nat.zero_le _,rfl,0,rfl⟩
     case round =>
      obtain ⟨i,hi,rfl,HQ⟩ := hrel
      rename World => wp
      have hcw : ∀ a,wp.cell? a = wq.cell? a := by obtain ⟨q,e⟩ := HQ.out;intro a;rw [e];rfl
      have hc0 : wp.cell? ⟨bb,0,none⟩ = some (.slice (some ⟨gb,0,none⟩) n cb) := (hcw _).trans ((HG.out.1.cell HB.out.bb_lt HB.out.bb_free 0).trans HH.out)
      by_cases hin : i < n
      ·have hc1 : wp.cell? ⟨gb,i,none⟩ = some (U i) := (hcw _).trans ((HG.out.1.cell HB.out.gb_lt HB.out.gb_free i).trans (HB.out.item i hin))
       have hiV : i < Vs.length := by rw [HG.out.2.2.2.1];exact hin
       have hc2 : wp.cell? ⟨gg,i,none⟩ = some Vs[i] := (hcw _).trans (HG.out.2.2.1.cell hiV);have hs1 : Sw wq (U i) (zvA i (L i)) := (HG.out.2.2.2.2.1 i hin).sw;have hs2 : Sw wq Vs[i] (zvA i (L i + 80)) := (HG.out.2.2.2.2.2 i hiV (by omega)).1.sw;have HH : ∀ q,Calls Try.prog 65 #[.int .i64 (i : Int),U i,Vs[i]] (wp.drewN q) fun e w' => e = .returned (.bool true) ∧ ∃ m,w' = (wp.drewN q).drewN m := fun q => by
        obtain ⟨q0,e⟩ := HQ.out;subst e;exact holds_yes (by omega) (by have := HB.out.len i hin;omega) ((hs1.drewN _).drewN _) ((hs2.drewN _).drewN _)
       clear hcw hs1 hs2;generalize U i = u1 at *;generalize Vs[i] = u2 at *;go_wp2_with fail;go_quiet ((go_at_call 65;exact Calls.quiet_of (HH _)));go_wp2;go_roundw
       case rel => exact ⟨i + 1,by omega,by go_num,(by unfold Hid;obtain ⟨q,hq⟩ := HQ.out;exact ⟨q + nq,by rw [hq,World.drewN_drewN]⟩)⟩
       case measure => simp [intOf];omega
      ·clear hcw
       go_wp2;go_ret;refine ⟨rfl,?_⟩;obtain ⟨q,e⟩ := HQ.out;subst e;exact HG.out.1.drewN q
theorem Try.infoII : (Try.prog.info? 82).map (fun i => (i.zero,i.size,i.bytes)) = some (some (.slice none 0 0),1,24) := by kernel_rfl
theorem Try.infoNN : (Try.prog.info? 60).map (fun i => (i.zero,i.size,i.bytes)) = some (some (.slice none 0 0),1,24) := by kernel_rfl
theorem zAC (w : World) {ops : Array Oper} {rest : List Oper} {o : Oper} {a : Act} {Q : Exit → Act → World → Prop} (t e : TypeId)
  (ht : Try.prog.underlying t = some (.slice e)) (hin : (Try.prog.info? e).map (fun i => (i.zero,i.size,i.bytes)) = some (some (.slice none 0 0),1,24))
  (hg : o.guard = none) (l c : Operand) (hop : o.op = Op.makeSlice t l c)
  (hl : a.eval l = .int .i64 0) (hc : a.eval c = .int .i64 0)
  (hK : ∀ w',Below w.heap.size w w' → wpList Try.prog ops Q rest (a.put o.dst (.slice (some ⟨w.heap.size,0,none⟩) 0 0)) w') :
  wpList Try.prog ops Q (o :: rest) a w := by
 refine wpList_plain hg fun K hK' => ?_
 obtain ⟨i,hi,hz,hs,hb⟩ := info_parts hin;have hrun := run_make (P := Try.prog) w t e i (.slice none 0 0) ht hi hz .i64 .i64 0 0 (by omega) (by omega) (by rw [hb];omega) (by omega);unfold Oper.wp;simp [execOp,hop,hl,hc,hrun,Result.andThen];exact hK' _ _ (hK _ ((Below.refl _ _).alloc (Nat.le_refl _) _))
theorem ints_none {w : World} {bb : Nat} (hc : w.cell? ⟨bb,1,none⟩ = some (.slice none 0 0)) (hlt : bb < w.heap.size) :
  Calls Try.prog 37 #[.pointer (some ⟨bb,0,none⟩)] w fun e w' => e = .returned (.bool true) ∧ Below w.heap.size w w' := by
 go_enter Try.func37,Try.ntmps37;go_wp2_with fail
 go_loopw [3] (fun i wr => i = .int .i64 0 ∧ wr = w) (fun _ _ => 0)
 case atStart => exact ⟨rfl,rfl⟩
 case round =>
  obtain ⟨rfl,rfl⟩ := hrel;go_wp2_with (at_make;refine zAC _ 42 82 Try.underlying42 Try.infoII rfl _ _ rfl rfl rfl ?_)
  intro w2 hb2;have hc2 := (hb2.cell (p := ⟨bb,1,none⟩) hlt).trans hc;have HB2 := hid hb2;clear hc hb2;go_wp2_with fail
  go_loopw [7] (fun i wr => i = .int .i64 0 ∧ wr = w2) (fun _ _ => 0)
  case atStart => exact ⟨rfl,rfl⟩
  case round =>
   obtain ⟨rfl,rfl⟩ := hrel;go_wp2_with fail
   rename World => wq
   go_loopw [10] (fun i wr => i = .int .i64 0 ∧ wr = wq) (fun _ _ => 0)
   case atStart => exact ⟨rfl,rfl⟩
   case round =>
    obtain ⟨rfl,rfl⟩ := hrel;go_wp2;go_ret;exact ⟨rfl,HB2.out⟩
theorem nums_none {w : World} {bb : Nat} (hc : w.cell? ⟨bb,2,none⟩ = some (.slice none 0 0)) (hlt : bb < w.heap.size) :
  Calls Try.prog 38 #[.pointer (some ⟨bb,0,none⟩)] w fun e w' => e = .returned (.bool true) ∧ Below w.heap.size w w' := by
 go_enter Try.func38,Try.ntmps38;go_wp2_with fail
 go_loopw [3] (fun i wr => i = .int .i64 0 ∧ wr = w) (fun _ _ => 0)
 case atStart => exact ⟨rfl,rfl⟩
 case round =>
  obtain ⟨rfl,rfl⟩ := hrel;go_wp2_with (at_make;refine zAC _ 43 60 Try.underlying43 Try.infoNN rfl _ _ rfl rfl rfl ?_)
  intro w2 hb2;have hc2 := (hb2.cell (p := ⟨bb,2,none⟩) hlt).trans hc;have HB2 := hid hb2;clear hc hb2;go_wp2_with fail
  go_loopw [7] (fun i wr => i = .int .i64 0 ∧ wr = w2) (fun _ _ => 0)
  case atStart => exact ⟨rfl,rfl⟩
  case round =>
   obtain ⟨rfl,rfl⟩ := hrel;go_wp2_with fail
   rename World => wq
   go_loopw [10] (fun i wr => i = .int .i64 0 ∧ wr = wq) (fun _ _ => 0)
   case atStart => exact ⟨rfl,rfl⟩
   case round =>
    obtain ⟨rfl,rfl⟩ := hrel;go_wp2;go_ret;exact ⟨rfl,HB2.out⟩
theorem apart_yes {w : World} {bb gb n : Nat} {U : Nat → Value} {L : Nat → Nat} (hB : Bk w bb gb n U L) (h1 : w.cell? ⟨bb,1,none⟩ = some (.slice none 0 0)) (h2 : w.cell? ⟨bb,2,none⟩ = some (.slice none 0 0)) :
  Calls Try.prog 17 #[.pointer (some ⟨bb,0,none⟩)] w fun e w' => e = .returned (.bool true) ∧ zYA (Blk n U) w w' := by
 have HB := hid hB;have HC := hid h1;have HD := hid h2;clear hB h1 h2;go_enter Try.func17,Try.ntmps17;go_wp2_with fail;refine (words_yes HB.out).mono ?_;rintro e w1 ⟨rfl,t1⟩;have T1 := hid t1;clear t1;go_wp2_with fail;refine (ints_none ((T1.out.cell HB.out.bb_lt HB.out.bb_free 1).trans HC.out) (Nat.lt_of_lt_of_le HB.out.bb_lt T1.out.size)).mono ?_;rintro e w2 ⟨rfl,t2⟩;have T2 := hid (T1.out.trans (.ofBelow t2));clear t2;go_wp2_with fail;refine (nums_none ((T2.out.cell HB.out.bb_lt HB.out.bb_free 2).trans HD.out) (Nat.lt_of_lt_of_le HB.out.bb_lt T2.out.size)).mono ?_;rintro e w3 ⟨rfl,t3⟩;have T3 := hid (T2.out.trans (.ofBelow t3));clear t3;go_wp2;go_ret;exact ⟨rfl,T3.out⟩
theorem add_head (g j : Nat) : (⟨g,0,none⟩ : Addr).add j = ⟨g,j,none⟩ := by unfold Addr.add;split <;> simp_all
end Go.Proofs.Ytppddlbkdoebmaa
