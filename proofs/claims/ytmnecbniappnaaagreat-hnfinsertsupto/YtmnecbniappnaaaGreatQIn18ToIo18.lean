/-
 QIn18ToIo18: In18, Io18, joined.
-/
import Derived.Test.YtmnecbniappnaaaGreatQSt18ToHa18
import Derived.Laws.CopyRow
import Derived.Lib.AppendZerosOnto
import Derived.Lib.Overlaps

set_option maxRecDepth 100000
set_option maxHeartbeats 6400000
set_option linter.unusedVariables false
set_option linter.unusedSimpArgs false
namespace Go.Proofs.YtmnecbniappnaaaGreat
open Go.RowKit Go.Shelf Go.Lib
theorem zsE : (Tryz.prog.info? 65).map (fun i => (i.zero,i.size,i.bytes)) = some (some (.agg #[.int .i64 0,.int .i64 0]),2,16) := by kernel_rfl
theorem zBG (r : Nat) (ρ γ : Nat → Nat) : ∀ v ∈ sc18 r ρ γ,v.oneCell' = true := by
 induction r with
 | zero => intro v hv;simp [sc18] at hv
 | succ r ih =>
  intro v hv;rw [sc18_succ] at hv;rcases List.mem_append.1 hv with q | q
  ·exact ih v q
  ·simp at q
   rcases q with rfl | rfl <;> rfl
theorem zMD {p x y : Nat} {ρ γ : Nat → Nat} : ∀ d,sc18 (p + d + 1) (insF p x ρ) (insF p y γ) = (sc18 (p + d) ρ γ).take (p * 2) ++ [.int .i64 (x : Int),.int .i64 (y : Int)] ++ (sc18 (p + d) ρ γ).drop (p * 2)
 | 0 => by
  rw [Nat.add_zero,sc18_succ,zsD,zsD,zuC (r := p) (ρ := insF p x ρ) (γ := insF p y γ) (ρ' := ρ) (γ' := γ) fun a ha => ⟨zqD ha,zqD ha⟩,List.take_of_length_le (by rw [zdA];omega),List.drop_of_length_le (by rw [zdA];omega),List.append_nil]
  rfl
 | d + 1 => by
  have ih := zMD (p := p) (x := x) (y := y) (ρ := ρ) (γ := γ) d;rw [show p + (d + 1) + 1 = (p + d + 1) + 1 by omega,sc18_succ,ih,zrD (by omega),zrD (by omega),show p + (d + 1) = (p + d) + 1 by omega,sc18_succ,show p + d + 1 - 1 = p + d by omega,
   List.take_append_of_le_length (by rw [zdA];omega),List.drop_append_of_le_length (by rw [zdA];omega),List.append_assoc]
def zuF (B : Nat) (w : World) (sv : Value) (r : Nat) (ρ γ : Nat → Nat) (e : Ending) (w' : World) : Prop :=
 ∃ sv',e = .returned sv' ∧ Sp18 B w' sv' r ρ γ ∧ Touch (fun b => sv.ownBlock = some b) w w'
theorem Sp18.own {B r : Nat} {w : World} {sv : Value} {ρ γ : Nat → Nat} (h : Sp18 B w sv r ρ γ) : w.ownsRow B 65 2 sv r (sc18 r ρ γ) := by
 refine ⟨zdA r ρ γ,?_⟩;rcases h with ⟨rfl,rfl⟩ | ⟨h0,Bp,cap,t,rfl,e0,e1,e2,e3,e4⟩
 ·exact .inl ⟨rfl,rfl⟩
 ·exact .inr ⟨Bp,cap,_,rfl,e1,e4,e0,e2,by simp [zdA];omega,by rw [← zdA r ρ γ];simp⟩
theorem Sp18.of {B r : Nat} {w : World} {sv : Value} {ρ γ : Nat → Nat} (h : w.ownsRow B 65 2 sv r (sc18 r ρ γ)) (h0 : 0 < r) : Sp18 B w sv r ρ γ := by
 rcases h.2 with ⟨_,e⟩ | ⟨g,cap,cur,rfl,e0,e1,e2,e3,e4,e5⟩
 ·omega
 ·refine .inr ⟨h0,g,cap,cur.toList.drop (r * 2),rfl,e2,e0,e3,by simp;omega,?_⟩
  have : sc18 r ρ γ ++ cur.toList.drop (r * 2) = cur.toList := by rw [← e5,List.take_append_drop]
  rw [this]
  show w.heap[g]? = some (.cells cur.toList.toArray _ _)
  simpa using e1
theorem insert_end18 {B r vb x y : Nat} {w : World} {sv : Value} {ρ γ : Nat → Nat} (h : Sp18 B w sv r ρ γ) (hv : Cel w vb 65 [.int .i64 (x : Int),.int .i64 (y : Int)]) (hr : r < 64) (hB : B ≤ w.heap.size) :
  Calls Tryz.prog 43 #[sv,.int .i64 (r : Int),.slice (some ⟨vb,0,none⟩) 1 1] w (zuF B w sv (r + 1) (insF r x ρ) (insF r y γ)) := by
 obtain ⟨i,hii,hz,hsz,hby⟩ := info_parts zsE;have hown := hid h.own;have hnews : Hid (∀ j u,[Value.int .i64 (x : Int),Value.int .i64 (y : Int)][j]? = some u → w.cell? ((⟨vb,0,none⟩ : Addr).add j) = some u) := fun j u hj => by
  rw [Addr.add_lit,Nat.zero_add];exact hv.at hj
 have FIN : Hid (∀ v' w',w'.ownsRow B 65 2 v' (r + 1) (sc18 r ρ γ ++ [.int .i64 (x : Int),.int .i64 (y : Int)]) → w.grownBy w' sv.ownBlock → zuF B w sv (r + 1) (insF r x ρ) (insF r y γ) (.returned v') w') := fun v' w' h1 h2 => by
  refine ⟨v',rfl,Sp18.of ?_ (by omega),⟨h2.os,h2.tape,h2.output,h2.size,fun b hb hn => h2.block b hb fun e => hn e.symm⟩⟩;have e := zMD (p := r) (x := x) (y := y) (ρ := ρ) (γ := γ) 0;rw [Nat.add_zero,List.take_of_length_le (by rw [zdA];omega),List.drop_of_length_le (by rw [zdA];omega),List.append_nil] at e;rw [e];exact h1
 obtain ⟨sa,sc,rfl⟩ : ∃ sa sc,sv = .slice sa r sc := by
  rcases h with ⟨e,h⟩ | ⟨_,Bp,cap,t,e,_⟩
  ·exact ⟨none,0,by rw [e];exact h⟩
  ·exact ⟨_,cap,e⟩
 have hsr : sa = none → sc = 0 := by
  intro e;rcases h with ⟨_,h⟩ | ⟨_,Bp,cap,t,e',_⟩
  ·simp at h;exact h.2.2
  ·rw [e] at e';cases e'
 have hrc : r ≤ sc := by
  rcases h with ⟨e,_⟩ | ⟨_,Bp,cap,t,e',e0,_⟩
  ·omega
  ·simp at e';omega
 have hrc' : (r : Int) ≤ (sc : Int) := by omega
 clear h hv
 by_cases hcr : sc = r
 ·subst hcr
  go_enter Tryz.func43,Tryz.ntmps43;go_wp2_with (at_builtin;refine wpList_append_own w rfl (.tmp 23) (.tmp 24) 61 rfl B 65 i (.agg #[.int .i64 0,.int .i64 0]) 2 16 Tryz.underlying61 hii hz hsz hby rfl (by omega) _ sc (sc18 sc ρ γ) rfl hown.out ⟨vb,0,none⟩ 1 1 [.int .i64 (x : Int),.int .i64 (y : Int)] rfl rfl hnews.out (by intro u hu;simp at hu;rcases hu with rfl | rfl <;> rfl) (by unfold maxLen;omega) (by omega) hB ?_)
  intro v' w' h1 h2 h3;have FF := hid (FIN.out v' w' h1 h2);clear h1 h2 h3 FIN hown hnews;go_wp2;go_ret;exact FF.out
 ·have hcr' : ¬ (sc : Int) = (r : Int) := by omega
  go_enter Tryz.func43,Tryz.ntmps43;go_wp2_with (at_builtin;refine wpList_append_own w rfl (.tmp 23) (.tmp 24) 61 rfl B 65 i (.agg #[.int .i64 0,.int .i64 0]) 2 16 Tryz.underlying61 hii hz hsz hby rfl (by omega) _ r (sc18 r ρ γ) rfl hown.out ⟨vb,0,none⟩ 1 1 [.int .i64 (x : Int),.int .i64 (y : Int)] rfl rfl hnews.out (by intro u hu;simp at hu;rcases hu with rfl | rfl <;> rfl) (by unfold maxLen;omega) (by omega) hB ?_)
  intro v' w' h1 h2 h3;have FF := hid (FIN.out v' w' h1 h2);clear h1 h2 h3 FIN hown hnews;go_wp2;go_ret;exact FF.out
theorem zGB {P : Program} (w : World) (dT sT ty elem : TypeId) (g o dLen dCap : Nat) (a : Addr) (sLen sCap : Nat) (cur : Array Value) (t : TypeId) (cs : List Value) (k : Nat)
  (hu : P.underlying dT = some (.slice elem)) (hs : (P.info? elem).map (·.size) = some 2)
  (hg : w.heap[g]? = some (.cells cur t (0,0))) (hk : k = Nat.min sLen dLen) (hn : cs.length = k * 2)
  (hsrc : ∀ j v,cs[j]? = some v → w.cell? (a.add j) = some v) (hfit : o + cs.length ≤ cur.size) (h1 : ∀ v ∈ cs,v.oneCell' = true) :
  (Builtin.copy_ #[dT,sT] ty #[.slice (some ⟨g,o,none⟩) dLen dCap,.slice (some a) sLen sCap]).run P w =
   .ok (goInt k) (w.setRow g (cur.toList.take o ++ cs ++ cur.toList.drop (o + cs.length)).toArray) := by
 have hl := run_loadCells_list (P := P) w a cs hsrc;have hst := run_storeCells_at P g o t cs 0 cur w hg (by simpa using hfit) h1;cases hq : P.info? elem with
 | none => simp [hq] at hs
 | some i =>
  have hi : i.size = 2 := by simpa [hq] using hs
  simp [Builtin.copy_,run_underlying hu,Builtin.lenOf,Builtin.firstCells,sizeOf,typeInfo,hq,hi,← hk,← hn,hl,hst]
theorem zFB {S : Nat → Prop} {w0 w : World} (h : Touch S w0 w) {g : Nat} (hg : w0.heap.size ≤ g ∨ S g) (cs : Array Value) : Touch S w0 (w.setRow g cs) := by
 refine ⟨h.os,h.tape,h.output,?_,fun b hb hn => ?_⟩
 ·have := h.size
  simpa [World.setRow] using this
 ·rw [← h.block b hb hn]
  unfold World.setRow;rw [Array.getElem?_modify,if_neg (by
   rintro rfl;rcases hg with q | q
   ·omega
   ·exact hn q)]
theorem insert_shift18 {B r vb x y p Bp cap : Nat} {w : World} {t : List Value} {ρ γ : Nat → Nat} (hp : p < r) (hr : r < 64) (hroom : r + 1 ≤ cap) (hB : B ≤ Bp) (hc63 : cap ≤ 9223372036854775807) (htl : t.length + r * 2 = cap * 2) (hc : Cel w Bp 65 (sc18 r ρ γ ++ t))
  (hv : Cel w vb 65 [Value.int .i64 (x : Int),Value.int .i64 (y : Int)]) (hne : vb ≠ Bp) :
  Calls Tryz.prog 43 #[.slice (some ⟨Bp,0,none⟩) r cap,.int .i64 (p : Int),.slice (some ⟨vb,0,none⟩) 1 1] w (zuF B w (.slice (some ⟨Bp,0,none⟩) r cap) (r + 1) (insF p x ρ) (insF p y γ)) := by
 have hsz : (Tryz.prog.info? 65).map (·.size) = some 2 := by
  obtain ⟨i,hii,hz,hsz,hby⟩ := info_parts zsE;rw [hii];simp [hsz]
 obtain ⟨cs,hcs⟩ : ∃ cs,cs = sc18 r ρ γ := ⟨_,rfl⟩
 have hcl : cs.length = r * 2 := by rw [hcs,zdA]
 obtain ⟨cur0,hcur0⟩ : ∃ cur0 : Array Value,cur0 = (cs ++ t).toArray := ⟨_,rfl⟩
 have hg0 : w.heap[Bp]? = some (.cells cur0 65 (0,0)) := by rw [hcur0,hcs];exact hc
 have hs0 : cur0.size = cap * 2 := by rw [hcur0];simp [hcl];omega
 obtain ⟨cur1,hcur1⟩ : ∃ cur1 : Array Value,cur1 = (cur0.toList.take ((p + 1) * 2) ++ cs.drop (p * 2) ++ cur0.toList.drop ((p + 1) * 2 + (cs.drop (p * 2)).length)).toArray := ⟨_,rfl⟩
 have hdl : (cs.drop (p * 2)).length = (r - p) * 2 := by rw [List.length_drop,hcl];omega
 have hs1 : cur1.size = cap * 2 := by rw [hcur1];simp [hdl,hs0];omega
 have hone : ∀ v ∈ cs,v.oneCell' = true := by rw [hcs];exact zBG r ρ γ
 have hcp1 : Hid (∀ W : World,W.heap = w.heap → ∀ ty dc sc,(Builtin.copy_ #[61,61] ty #[.slice (some ⟨Bp,(p + 1) * 2,none⟩) (r - p) dc,.slice (some ⟨Bp,p * 2,none⟩) (r + 1 - p) sc]).run Tryz.prog W = .ok (goInt ((r - p : Nat) : Int)) (W.setRow Bp cur1)) := fun W hW ty dc sc => by
  have h := zGB (P := Tryz.prog) W 61 61 ty 65 Bp ((p + 1) * 2) (r - p) dc ⟨Bp,p * 2,none⟩ (r + 1 - p) sc cur0 65 (cs.drop (p * 2)) (r - p) Tryz.underlying61 hsz (by rw [hW];exact hg0) (by simp only [Nat.min_def];split <;> omega) hdl
   (fun j v hj => by
    rw [Addr.add_lit];rw [List.getElem?_drop] at hj;have hjl := (List.getElem?_eq_some_iff.1 hj).1;simp only [World.cell?,hW,hg0];rw [hcur0];simp only [List.getElem?_toArray];rw [List.getElem?_append_left hjl];exact hj)
   (by rw [hdl,hs0];omega) (fun v hv => hone v (List.mem_of_mem_drop hv))
  rw [h,← hcur1]
 obtain ⟨cur2,hcur2⟩ : ∃ cur2 : Array Value,cur2 = (cur1.toList.take (p * 2) ++ [Value.int .i64 (x : Int),Value.int .i64 (y : Int)] ++ cur1.toList.drop (p * 2 + 2)).toArray := ⟨_,rfl⟩
 obtain ⟨W1,hW1⟩ : ∃ W1,w.setRow Bp cur1 = W1 := ⟨_,rfl⟩
 have hg1 : W1.heap[Bp]? = some (.cells cur1 65 (0,0)) := by rw [← hW1];exact setRow_heap w Bp cur0 cur1 _ _ hg0
 have hv1 : Cel W1 vb 65 [Value.int .i64 (x : Int),Value.int .i64 (y : Int)] := by
  rw [← hW1]
  show (w.setRow Bp cur1).heap[vb]? = _
  unfold World.setRow;rw [Array.getElem?_modify,if_neg (Ne.symm hne)];exact hv
 have hcp2 : Hid (∀ W : World,W.heap = W1.heap → ∀ ty dc,(Builtin.copy_ #[61,61] ty #[.slice (some ⟨Bp,p * 2,none⟩) (r + 1 - p) dc,.slice (some ⟨vb,0,none⟩) 1 1]).run Tryz.prog W = .ok (goInt ((1 : Nat) : Int)) (W.setRow Bp cur2)) := fun W hW ty dc => by
  have h := zGB (P := Tryz.prog) W 61 61 ty 65 Bp (p * 2) (r + 1 - p) dc ⟨vb,0,none⟩ 1 1 cur1 65 [Value.int .i64 (x : Int),Value.int .i64 (y : Int)] 1 Tryz.underlying61 hsz (by rw [hW];exact hg1) (by simp only [Nat.min_def];split <;> omega) rfl
   (fun j v hj => by
    rw [Addr.add_lit,Nat.zero_add];have := hv1.at hj;simp only [World.cell?,hW] at this ⊢;exact this)
   (by simp [hs1];omega) (by intro u hu;simp at hu;rcases hu with rfl | rfl <;> rfl)
  rw [h];simp only [List.length_cons,List.length_nil,Nat.zero_add,Nat.reduceAdd];rw [← hcur2]
 have hfin : cur2.toList = sc18 (r + 1) (insF p x ρ) (insF p y γ) ++ cur2.toList.drop ((r + 1) * 2) := by
  obtain ⟨d,hd⟩ : ∃ d,r = p + d := ⟨r - p,by omega⟩
  have e := zMD (p := p) (x := x) (y := y) (ρ := ρ) (γ := γ) d;rw [← hd,← hcs] at e;rw [e];have e0 : cur0.toList = cs ++ t := by rw [hcur0]
  have e1 : cur1.toList = (cs ++ t).take ((p + 1) * 2) ++ cs.drop (p * 2) ++ (cs ++ t).drop ((p + 1) * 2 + (cs.drop (p * 2)).length) := by rw [hcur1,e0]
  have e2 : cur2.toList = cur1.toList.take (p * 2) ++ [Value.int .i64 (x : Int),Value.int .i64 (y : Int)] ++ cur1.toList.drop (p * 2 + 2) := by rw [hcur2]
  have l1 : ((cs ++ t).take ((p + 1) * 2)).length = (p + 1) * 2 := by rw [List.length_take,List.length_append];omega
  have t1 : cur1.toList.take (p * 2) = cs.take (p * 2) := by
   rw [e1,List.append_assoc,List.take_append_of_le_length (by omega),List.take_take,Nat.min_eq_left (by omega),List.take_append_of_le_length (by omega)]
  have t2 : cur1.toList.drop (p * 2 + 2) = cs.drop (p * 2) ++ (cs ++ t).drop ((p + 1) * 2 + (cs.drop (p * 2)).length) := by
   rw [e1,List.append_assoc,List.drop_append_of_le_length (by omega),List.drop_of_length_le (by omega),List.nil_append]
  rw [t1,t2] at e2;have l3 : (cs.take (p * 2) ++ [Value.int .i64 (x : Int),Value.int .i64 (y : Int)] ++ cs.drop (p * 2)).length = (r + 1) * 2 := by
   simp [hdl,List.length_take,hcl];omega
  obtain ⟨Z,hZ⟩ : ∃ Z,(cs ++ t).drop ((p + 1) * 2 + (cs.drop (p * 2)).length) = Z := ⟨_,rfl⟩
  rw [hZ] at e2;have e3 : cur2.toList = (cs.take (p * 2) ++ [Value.int .i64 (x : Int),Value.int .i64 (y : Int)] ++ cs.drop (p * 2)) ++ Z := by rw [e2];simp only [List.append_assoc]
  rw [e3,← l3,List.drop_left]
 have hlen2 : cur2.size = cap * 2 := by rw [hcur2];simp [hs1];omega
 have FIN : Hid (∀ W : World,W.heap = (W1.setRow Bp cur2).heap → W.os = w.os → W.tape = w.tape → W.output = w.output → zuF B w (.slice (some ⟨Bp,0,none⟩) r cap) (r + 1) (insF p x ρ) (insF p y γ) (.returned (.slice (some ⟨Bp,0,none⟩) (r + 1) cap)) W) := fun W h1 h2 h3 h4 => by
  have ht : Touch (fun b => (Value.slice (some ⟨Bp,0,none⟩) r cap).ownBlock = some b) w (W1.setRow Bp cur2) := by
   rw [← hW1];have hS : (Value.slice (some ⟨Bp,0,none⟩) r cap).ownBlock = some Bp := rfl;exact zFB (zFB (Touch.refl (fun b => (Value.slice (some ⟨Bp,0,none⟩) r cap).ownBlock = some b) w) (.inr hS) _) (.inr hS) _
  refine ⟨_,rfl,.inr ⟨by omega,Bp,cap,cur2.toList.drop ((r + 1) * 2),rfl,hroom,hB,hc63,by simp [hlen2];omega,?_⟩,⟨h2,h3,h4,by rw [h1];exact ht.size,fun b hb hn => by rw [h1];exact ht.block b hb hn⟩⟩;rw [← hfin]
  show W.heap[Bp]? = _
  rw [h1];have := setRow_heap W1 Bp cur1 cur2 _ _ hg1;rw [this]
 have hvb := hv.blk;have hov : Hid (∀ W : World,W.heap = w.heap → ∀ lb cb,(callFunc 69 #[.slice (some ⟨vb,0,none⟩) 1 1,.slice (some ⟨Bp,(p + 1) * 2,none⟩) lb cb]).run Tryz.prog W = .ok (.value (.bool false)) W) := fun W hW lb cb => by
  rw [run_callFunc_extern Tryz.func69 (by kernel_rfl) (by kernel_rfl) (by kernel_rfl) (e := Extern.SlicesOverlaps.overlaps #[61,61] #[4]) (by kernel_rfl),
   Lib.run_overlaps_apart W 61 4 65 Tryz.underlying61 2 (fun w => by
    obtain ⟨i,hii,hz,hsz,hby⟩ := info_parts zsE;simp [sizeOf,typeInfo,hii,hsz]) ⟨vb,0,none⟩ ⟨Bp,(p + 1) * 2,none⟩ 1 1 lb cb hne 65 65 2 (cap * 2) (by simp [World.shape?,hW,show w.heap[vb]? = _ from hv]) (by simp [World.shape?,hW,hg0,hs0]) (by omega) (by simp [World.frozen?,hW,show w.heap[vb]? = _ from hv]) (by simp [World.frozen?,hW,show w.heap[vb]? = _ from hv])]
  rfl
 have hz2 : ¬ ((p : Int) = (r : Int)) := by omega
 have hz3 : ¬ (cap : Int) < (r : Int) + 1 := by omega
 have hz4 : ¬ (cap < r + 1) := by omega
 have hw1 : IntKind.i64.wrap ((p : Int) + 1) = (p : Int) + 1 := by rw [IntKind.wrap_i64];omega
 have hw2 : IntKind.i64.wrap ((r : Int) + 1) = (r : Int) + 1 := by rw [IntKind.wrap_i64];omega
 have htn : ((p : Int) + 1).toNat = p + 1 := by omega
 have htr : ((r : Int) + 1).toNat = r + 1 := by omega
 have hb1 : (0 : Int) ≤ (p : Int) + 1 := by omega
 have hb0 : (0 : Int) ≤ (r : Int) + 1 := by omega
 have hbr : (r : Int) + 1 ≤ (cap : Int) := by omega
 have hpr : (p : Int) ≤ (r : Int) := by omega
 have hpr2 : (p : Int) ≤ (r : Int) + 1 := by omega
 have hpr3 : (p : Int) + 1 ≤ (r : Int) + 1 := by omega
 have hpr4 : p ≤ r := by omega
 have hpr5 : p ≤ r + 1 := by omega
 have hb2 : ¬ (cap = p + 1) := by omega
 have hb4 : ¬ (cap = p) := by omega
 have EW1 := hid hW1;have hov' := hov.out;clear hc hv hcs hcl hcur0 hg0 hs0 hcur1 hdl hs1 hone hcur2 hW1 hg1 hv1 hfin hlen2 hvb hov;go_enter Tryz.func43,Tryz.ntmps43;go_wp2_with (simp only [hov' _ rfl])
 have hq1 := hcp1.out w.drew rfl 3 (cap - (p + 1)) (cap - p);go_region;clear hq1;have hq2 := hcp2.out (w.drew.setRow Bp cur1) (by rw [← EW1.out];rfl) 3 (cap - p);go_wp2;go_ret;exact FIN.out _ (by rw [← EW1.out];rfl) rfl rfl rfl
end Go.Proofs.YtmnecbniappnaaaGreat
