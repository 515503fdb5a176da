import Derived.Test.YtkklldokdnfkgaaGreatQCf12ToRf12
import Derived.Test.YtkklldokdnfkgaaGreatQR5Mod
import Derived.Test.YtkklldokdnfkgaaGreatQFil9ToCat9
import Derived.Test.YtkklldokdnfkgaaGreatQRs12ToTailA
set_option maxRecDepth 100000
set_option maxHeartbeats 6400000
set_option linter.unusedVariables false
set_option linter.unusedSimpArgs false
namespace Go.Proofs.YtkklldokdnfkgaaGreat
open Go.RowKit
theorem Zm.nought {B k : Nat} {w : World} {v : Value} (h : Zm B w v 0 k) : ∃ a c,v = .agg #[.bool false,.slice a 0 c] := by
 obtain ⟨n,zs,a,c,rfl,-,hc,hn,hv,-⟩ := h;have h0 : val zs = 0 := by
  cases n
  ·simpa [iv] using hv
  ·simp only [iv,if_true] at hv;omega
 have e := zuA hc h0;subst e;rw [hn rfl];exact ⟨a,c,rfl⟩
def ZrH (w : World) (n gk : Nat) (s : Value) (wx : World) : Prop := ∃ i : Nat,s = .int .i64 (i : Int) ∧ i ≤ n ∧ gk = n - i ∧ Below w.heap.size w wx
theorem zSC {w : World} {v : Value} {zs : List Int} {kk p : Nat} (hv : Zl w v zs kk) (hkk : kk ≤ 68719476735) (hp : 0 < p) (hp2 : p < 2147483648) (hz : ∀ z ∈ zs,z % (p : Int) = 0) :
  Calls Tryz.prog 15 #[v,.int .u64 (p : Int)] w fun e w' => e = .returned (.bool true) ∧ Below w.heap.size w w' := by
 have V0 := hid hv;have HZ := hid hz;obtain ⟨a0,c0,rfl,hc0,hn0,hf0⟩ := V0.out.form9;obtain ⟨n,hn⟩ : ∃ n,zs.length = n := ⟨_,rfl⟩
 rw [hn] at V0 hc0 hn0 ⊢;have HN := hid hn;have F0 := hid hf0;have H0 : Hid (ZrH w n n (.int .i64 0) w) := ⟨0,rfl,Nat.zero_le _,rfl,Below.refl _ _⟩
 clear hv hf0 hn hz;go_enter Tryz.func15,Tryz.ntmps15;go_wp2_with fail
 go_loopg [5] n (fun gk s5 wx => ZrH w n gk s5 wx)
 case atStart => exact H0.out
 case round =>
  clear H0;obtain ⟨i,rfl,hin,hg,hG⟩ := hrel;have G := hid hG;have HG := hid hg;clear hG hg
  by_cases hlt : i < n
  ·have hlt' : (i : Int) < (n : Int) := by omega
   obtain ⟨b1,o1,rfl⟩ := F0.out (fun e => by have := HN.out;rw [e] at this;simp at this;omega);obtain ⟨nf,xf,adf,qf,k0,k1,zf⟩ := (V0.out.now G.out).at9 (i := i) (by rw [HN.out];exact hlt);have hzi := HZ.out _ (List.getElem_mem (l := zs) (n := i) (by rw [HN.out];exact hlt));obtain ⟨z,hzz⟩ : ∃ z,zs[i]'(by rw [HN.out];exact hlt) = z := ⟨_,rfl⟩
   rw [hzz] at zf hzi;have ZF := hid (zf.more (l := kk + 1) (by omega));have HZI := hid hzi;have hw := znD hlt hn0;have HMM : Hid (n - (i + 1) < gk) := by unfold Hid;rw [HG.out];omega
   clear zf hzz hzi HG;go_wp2_with fail;have KB : Hid (∀ w',Below wr.heap.size wr w' → w'.cell? ⟨b1,o1 + i * 2,none⟩ = some (.bool nf) ∧ w'.cell? ⟨b1,o1 + i * 2 + 1,none⟩ = some (.slice adf xf.length qf)) := fun w' h => ⟨cnow h k0,cnow h k1⟩
   refine zDA (fun w' => w'.cell? ⟨b1,o1 + i * 2,none⟩ = some (.bool nf) ∧ w'.cell? ⟨b1,o1 + i * 2 + 1,none⟩ = some (.slice adf xf.length qf)) 13 (by kernel_rfl) ?_;obtain ⟨D1,hD⟩ : ∃ D1,wr.drew = D1 := ⟨_,rfl⟩
   have GB : Hid (Below wr.heap.size wr D1) := by unfold Hid;rw [← hD];exact (Below.refl _ _).drew
   rw [hD];clear hD;have ld0 := GB.out.size;refine zKA (i := 0) (oi := ⟨some 15,.move (.tmp 0),22, "plain.go:34",#[],none⟩) (v := (.slice (some ⟨b1,o1,none⟩) n c0)) rfl (by kernel_rfl) (fun _ _ _ h => h) (Or.inl ⟨by rfl,?_⟩) (KB.out _ GB.out) ?_
   ·intro w hSw;(try dsimp only at hSw);go_simp
   simp only [Act.put,sIb,sC0,sC1];refine zKA (i := 1) (oi := ⟨some 16,.move (.tmp 5),3, "plain.go:34",#[],none⟩) (v := (.int .i64 (i : Int))) rfl (by kernel_rfl) (fun _ _ _ h => h) (Or.inl ⟨by rfl,?_⟩) (KB.out _ GB.out) ?_
   ·intro w hSw;(try dsimp only at hSw);go_simp
   simp only [Act.put,sIb,sC0,sC1];refine zKA (i := 2) (oi := ⟨some 17,.indexAddr 22 (.tmp 15) (.tmp 16),0, "plain.go:34",#[⟨0,.data⟩,⟨1,.data⟩],none⟩) (v := (.pointer (some ⟨b1,o1 + i * 2,none⟩))) rfl (by kernel_rfl) (fun _ _ _ h => h) (Or.inl ⟨by rfl,?_⟩) (KB.out _ GB.out) ?_
   ·intro w hSw;(try dsimp only at hSw);go_simp
   simp only [Act.put,sIb,sC0,sC1];refine zKA (i := 3) (oi := ⟨some 18,.load 44 (.tmp 17),44, "plain.go:34",#[⟨2,.data⟩],none⟩) (v := (.agg #[.bool nf,.slice adf xf.length qf])) rfl (by kernel_rfl) (fun _ _ _ h => h) (Or.inl ⟨by rfl,?_⟩) (KB.out _ GB.out) ?_
   ·intro w hSw;(try dsimp only at hSw);go_simp
   simp only [Act.put,sIb,sC0,sC1];refine zKA (i := 4) (oi := ⟨some 19,.move (.tmp 1),25, "plain.go:34",#[],none⟩) (v := (.int .u64 (p : Int))) rfl (by kernel_rfl) (fun _ _ _ h => h) (Or.inl ⟨by rfl,?_⟩) (KB.out _ GB.out) ?_
   ·intro w hSw;(try dsimp only at hSw);go_simp
   simp only [Act.put,sIb,sC0,sC1];refine zTC (i := 5) (j := 10) (oi := ⟨some 20,.call { callee := .value (.func 18),args := #[.tmp 19],argTypes := #[25] },44, "plain.go:34",#[⟨4,.data⟩],none⟩) (oj := ⟨some 6,.alloc 44,0, "plain.go:34",#[],none⟩) (by kernel_rfl) rfl rfl (fun K hK => ?_) (fun K hK => ?_)
   ·skip
    go_simp;go_at_call 18;refine (of12 (n := (p : Int)) (by omega) (by omega) _).mono ?_;rintro e w2 ⟨r5,rfl,hz5,b⟩;have lz2 := (show Below _ _ _ from b).size;replace GB := hid (below_step GB.out b);have ZP := hid (hz5.more (l := kk + 1) (by omega));obtain ⟨np,xp,ap,cp,rfl,-,-,-⟩ := id hz5;clear hz5;clear b;refine hK.out _ _ (fun _ => KB.out _ GB.out) ?_;clear hK;refine zTC (i := 6) (j := 10) (oi := ⟨some 21,.call { callee := .value (.func 36),args := #[.tmp 18,.tmp 20],argTypes := #[44,44] },72, "plain.go:34",#[⟨3,.data⟩,⟨5,.data⟩,⟨5,.chain⟩],none⟩) (oj := ⟨some 6,.alloc 44,0, "plain.go:34",#[],none⟩) (by kernel_rfl) rfl rfl (fun K hK => ?_) (fun K hK => ?_)
    ·skip
     go_simp;go_at_call 36;refine (zXH (ZF.out.now GB.out) ZP.out (by omega) (by omega)).mono ?_;rintro e w3 ⟨r6,rfl,m6,b⟩;have lz3 := (show Below _ _ _ from b).size;replace GB := hid (below_step GB.out b);rw [HZI.out] at m6;obtain ⟨am,cm,rfl⟩ := m6.nought;clear m6;clear b;refine hK.out _ _ (fun _ => KB.out _ GB.out) ?_;clear hK;refine zKA (i := 7) (oi := ⟨some 14,.move (.tmp 21),72, "plain.go:34",#[⟨6,.data⟩],none⟩) (v := (.tuple #[(.agg #[.bool false,.slice am 0 cm]),(.int .i64 0)])) rfl (by kernel_rfl) (fun _ _ _ h => h) (Or.inl ⟨by rfl,?_⟩) (KB.out _ GB.out) ?_
     ·intro w hSw;(try dsimp only at hSw);go_simp
     simp only [Act.put,sIb,sC0,sC1];refine zKA (i := 8) (oi := ⟨some 22,.extract (.tmp 14) 0,44, "plain.go:34",#[⟨7,.data⟩],none⟩) (v := (.agg #[.bool false,.slice am 0 cm])) rfl (by kernel_rfl) (fun _ _ _ h => h) (Or.inl ⟨by rfl,?_⟩) (KB.out _ GB.out) ?_
     ·intro w hSw;(try dsimp only at hSw);go_simp
     simp only [Act.put,sIb,sC0,sC1];refine zKA (i := 9) (oi := ⟨some 23,.extract (.tmp 14) 1,29, "plain.go:34",#[⟨7,.data⟩,⟨11,.gcOnly .lateStores⟩],none⟩) (v := (.int .i64 0)) rfl (by kernel_rfl) (fun _ _ _ h => h) (Or.inl ⟨by rfl,?_⟩) (KB.out _ GB.out) ?_
     ·intro w hSw;(try dsimp only at hSw);go_simp
     simp only [Act.put,sIb,sC0,sC1];refine zCA (i := 10) (o := ⟨some 6,.alloc 44,0, "plain.go:34",#[],none⟩) (by kernel_rfl) rfl (fun K hK => ?_);go_simp;obtain ⟨V4,hW⟩ : ∃ V4,w3.alloc zbox = V4 := ⟨_,rfl⟩
     obtain ⟨b,sz4⟩ := alo1 w3 zbox;rw [hW] at b sz4;replace GB := hid (below_step GB.out b);have PN : Hid (Duo V4 w3.heap.size (.bool false) (.slice none 0 0)) := by unfold Hid;rw [← hW];exact Duo.new _ _ _
     have BN : Hid (wr.heap.size ≤ w3.heap.size) := by unfold Hid;omega
     rw [hW];clear hW b;refine hK.out _ _ (fun _ => KB.out _ GB.out) ?_;clear hK
     try simp only [Act.put]
     refine zCA (i := 11) (o := ⟨none,.store 44 (.tmp 6) (.tmp 22),0, "plain.go:34",#[⟨10,.data⟩,⟨8,.data⟩,⟨6,.chain⟩,⟨0,.phase⟩,⟨1,.phase⟩,⟨2,.phase⟩,⟨3,.phase⟩,⟨4,.phase⟩,⟨5,.phase⟩,⟨6,.phase⟩,⟨7,.phase⟩,⟨8,.phase⟩,⟨9,.textOnly .lateStores⟩,⟨10,.phase⟩],none⟩) (by kernel_rfl) rfl (fun K hK => ?_);have r0 := PN.out.c0;have r1 := PN.out.c1;have f0 := PN.out.fz 0;have f1 := PN.out.fz 1;go_simp;clear r0 r1 f0 f1;obtain ⟨V5,hW⟩ : ∃ V5,((V4.setCell ⟨w3.heap.size,0,none⟩ (.bool false)).setCell ⟨w3.heap.size,1,none⟩ (.slice am 0 cm)) = V5 := ⟨_,rfl⟩
     have GE : Hid (Below wr.heap.size wr V5) := by unfold Hid;rw [← hW];exact bset (bset GB.out BN.out) BN.out
     have PF : Hid (Duo V5 w3.heap.size (.bool false) (.slice am 0 cm)) := by unfold Hid;rw [← hW];exact PN.out.set _ _
     replace GB := GE;clear PN GE;rw [hW];clear hW;refine hK.out _ _ (fun _ => KB.out _ GB.out) ?_;clear hK
     try simp only [Act.put]
     refine zKA (i := 12) (oi := ⟨some 7,.assign (.tmp 23),29, "plain.go:34",#[⟨9,.data⟩,⟨11,.chain⟩,⟨0,.phase⟩,⟨1,.phase⟩,⟨2,.phase⟩,⟨3,.phase⟩,⟨4,.phase⟩,⟨5,.phase⟩,⟨6,.phase⟩,⟨7,.phase⟩,⟨8,.phase⟩,⟨9,.phase⟩,⟨10,.phase⟩,⟨11,.phase⟩],none⟩) (v := (.int .i64 0)) rfl (by kernel_rfl) (fun _ _ _ h => h) (Or.inl ⟨by rfl,?_⟩) (KB.out _ GB.out) ?_
     ·intro w hSw;(try dsimp only at hSw);go_simp
     simp only [Act.put,sIb,sC0,sC1];refine zFA (by kernel_rfl) ?_ _;have q0 : ((0 : Int) != 0) = false := rfl;have x1 := PF.out.c1;have HN1 : Hid (ZrH w n (n - (i + 1)) (.int .i64 ((i + 1 : Nat) : Int)) V5) := ⟨i + 1,rfl,by omega,rfl,below_step G.out GB.out⟩
     clear GB KB G PF BN ZF HZI k0 k1;go_wp2_with fail;go_roundg (n - (i + 1))
     case rel => exact HN1.out
     case measure => exact HMM.out
    ·skip
     go_simp;obtain ⟨V6,hW⟩ : ∃ V6,w2.alloc zbox = V6 := ⟨_,rfl⟩
     obtain ⟨b,sz6⟩ := alo1 w2 zbox;rw [hW] at b sz6;replace GB := hid (below_step GB.out b);have PN : Hid (Duo V6 w2.heap.size (.bool false) (.slice none 0 0)) := by unfold Hid;rw [← hW];exact Duo.new _ _ _
     have BN : Hid (wr.heap.size ≤ w2.heap.size) := by unfold Hid;omega
     replace ZP := hid (ZP.out.now b);rw [hW];clear hW b;refine hK.out _ _ (fun _ => KB.out _ GB.out) ?_;clear hK
     try simp only [Act.put]
     refine zCA (i := 6) (o := ⟨some 21,.call { callee := .value (.func 36),args := #[.tmp 18,.tmp 20],argTypes := #[44,44] },72, "plain.go:34",#[⟨3,.data⟩,⟨5,.data⟩,⟨5,.chain⟩],none⟩) (by kernel_rfl) rfl (fun K hK => ?_);go_simp;go_at_call 36;refine (zXH (ZF.out.now GB.out) ZP.out (by omega) (by omega)).mono ?_;rintro e w7 ⟨r6,rfl,m6,b⟩;have lz7 := (show Below _ _ _ from b).size;replace GB := hid (below_step GB.out b);rw [HZI.out] at m6;obtain ⟨am,cm,rfl⟩ := m6.nought;clear m6;replace PN := hid (PN.out.step b);clear b;refine hK.out _ _ (fun _ => KB.out _ GB.out) ?_;clear hK;refine zKA (i := 7) (oi := ⟨some 14,.move (.tmp 21),72, "plain.go:34",#[⟨6,.data⟩],none⟩) (v := (.tuple #[(.agg #[.bool false,.slice am 0 cm]),(.int .i64 0)])) rfl (by kernel_rfl) (fun _ _ _ h => h) (Or.inl ⟨by rfl,?_⟩) (KB.out _ GB.out) ?_
     ·intro w hSw;(try dsimp only at hSw);go_simp
     simp only [Act.put,sIb,sC0,sC1];refine zKA (i := 8) (oi := ⟨some 22,.extract (.tmp 14) 0,44, "plain.go:34",#[⟨7,.data⟩],none⟩) (v := (.agg #[.bool false,.slice am 0 cm])) rfl (by kernel_rfl) (fun _ _ _ h => h) (Or.inl ⟨by rfl,?_⟩) (KB.out _ GB.out) ?_
     ·intro w hSw;(try dsimp only at hSw);go_simp
     simp only [Act.put,sIb,sC0,sC1];refine zKA (i := 9) (oi := ⟨some 23,.extract (.tmp 14) 1,29, "plain.go:34",#[⟨7,.data⟩,⟨11,.gcOnly .lateStores⟩],none⟩) (v := (.int .i64 0)) rfl (by kernel_rfl) (fun _ _ _ h => h) (Or.inl ⟨by rfl,?_⟩) (KB.out _ GB.out) ?_
     ·intro w hSw;(try dsimp only at hSw);go_simp
     simp only [Act.put,sIb,sC0,sC1];refine zCA (i := 11) (o := ⟨none,.store 44 (.tmp 6) (.tmp 22),0, "plain.go:34",#[⟨10,.data⟩,⟨8,.data⟩,⟨6,.chain⟩,⟨0,.phase⟩,⟨1,.phase⟩,⟨2,.phase⟩,⟨3,.phase⟩,⟨4,.phase⟩,⟨5,.phase⟩,⟨6,.phase⟩,⟨7,.phase⟩,⟨8,.phase⟩,⟨9,.textOnly .lateStores⟩,⟨10,.phase⟩],none⟩) (by kernel_rfl) rfl (fun K hK => ?_);have r0 := PN.out.c0;have r1 := PN.out.c1;have f0 := PN.out.fz 0;have f1 := PN.out.fz 1;go_simp;clear r0 r1 f0 f1;obtain ⟨V8,hW⟩ : ∃ V8,((w7.setCell ⟨w2.heap.size,0,none⟩ (.bool false)).setCell ⟨w2.heap.size,1,none⟩ (.slice am 0 cm)) = V8 := ⟨_,rfl⟩
     have GE : Hid (Below wr.heap.size wr V8) := by unfold Hid;rw [← hW];exact bset (bset GB.out BN.out) BN.out
     have PF : Hid (Duo V8 w2.heap.size (.bool false) (.slice am 0 cm)) := by unfold Hid;rw [← hW];exact PN.out.set _ _
     replace GB := GE;clear PN GE;rw [hW];clear hW;refine hK.out _ _ (fun _ => KB.out _ GB.out) ?_;clear hK
     try simp only [Act.put]
     refine zKA (i := 12) (oi := ⟨some 7,.assign (.tmp 23),29, "plain.go:34",#[⟨9,.data⟩,⟨11,.chain⟩,⟨0,.phase⟩,⟨1,.phase⟩,⟨2,.phase⟩,⟨3,.phase⟩,⟨4,.phase⟩,⟨5,.phase⟩,⟨6,.phase⟩,⟨7,.phase⟩,⟨8,.phase⟩,⟨9,.phase⟩,⟨10,.phase⟩,⟨11,.phase⟩],none⟩) (v := (.int .i64 0)) rfl (by kernel_rfl) (fun _ _ _ h => h) (Or.inl ⟨by rfl,?_⟩) (KB.out _ GB.out) ?_
     ·intro w hSw;(try dsimp only at hSw);go_simp
     simp only [Act.put,sIb,sC0,sC1];refine zFA (by kernel_rfl) ?_ _;have q0 : ((0 : Int) != 0) = false := rfl;have x1 := PF.out.c1;have HN1 : Hid (ZrH w n (n - (i + 1)) (.int .i64 ((i + 1 : Nat) : Int)) V8) := ⟨i + 1,rfl,by omega,rfl,below_step G.out GB.out⟩
     clear GB KB G PF BN ZF HZI k0 k1;go_wp2_with fail;go_roundg (n - (i + 1))
     case rel => exact HN1.out
     case measure => exact HMM.out
   ·skip
    go_simp;obtain ⟨V9,hW⟩ : ∃ V9,D1.alloc zbox = V9 := ⟨_,rfl⟩
    obtain ⟨b,sz9⟩ := alo1 D1 zbox;rw [hW] at b sz9;replace GB := hid (below_step GB.out b);have PN : Hid (Duo V9 D1.heap.size (.bool false) (.slice none 0 0)) := by unfold Hid;rw [← hW];exact Duo.new _ _ _
    have BN : Hid (wr.heap.size ≤ D1.heap.size) := by unfold Hid;omega
    rw [hW];clear hW b;refine hK.out _ _ (fun _ => KB.out _ GB.out) ?_;clear hK
    try simp only [Act.put]
    refine zCA (i := 5) (o := ⟨some 20,.call { callee := .value (.func 18),args := #[.tmp 19],argTypes := #[25] },44, "plain.go:34",#[⟨4,.data⟩],none⟩) (by kernel_rfl) rfl (fun K hK => ?_);go_simp;go_at_call 18;refine (of12 (n := (p : Int)) (by omega) (by omega) _).mono ?_;rintro e w10 ⟨r5,rfl,hz5,b⟩;have lz10 := (show Below _ _ _ from b).size;replace GB := hid (below_step GB.out b);have ZP := hid (hz5.more (l := kk + 1) (by omega));obtain ⟨np,xp,ap,cp,rfl,-,-,-⟩ := id hz5;clear hz5;replace PN := hid (PN.out.step b);clear b;refine hK.out _ _ (fun _ => KB.out _ GB.out) ?_;clear hK;refine zCA (i := 6) (o := ⟨some 21,.call { callee := .value (.func 36),args := #[.tmp 18,.tmp 20],argTypes := #[44,44] },72, "plain.go:34",#[⟨3,.data⟩,⟨5,.data⟩,⟨5,.chain⟩],none⟩) (by kernel_rfl) rfl (fun K hK => ?_);go_simp;go_at_call 36;refine (zXH (ZF.out.now GB.out) ZP.out (by omega) (by omega)).mono ?_;rintro e w11 ⟨r6,rfl,m6,b⟩;have lz11 := (show Below _ _ _ from b).size;replace GB := hid (below_step GB.out b);rw [HZI.out] at m6;obtain ⟨am,cm,rfl⟩ := m6.nought;clear m6;replace PN := hid (PN.out.step b);clear b;refine hK.out _ _ (fun _ => KB.out _ GB.out) ?_;clear hK;refine zKA (i := 7) (oi := ⟨some 14,.move (.tmp 21),72, "plain.go:34",#[⟨6,.data⟩],none⟩) (v := (.tuple #[(.agg #[.bool false,.slice am 0 cm]),(.int .i64 0)])) rfl (by kernel_rfl) (fun _ _ _ h => h) (Or.inl ⟨by rfl,?_⟩) (KB.out _ GB.out) ?_
    ·intro w hSw;(try dsimp only at hSw);go_simp
    simp only [Act.put,sIb,sC0,sC1];refine zKA (i := 8) (oi := ⟨some 22,.extract (.tmp 14) 0,44, "plain.go:34",#[⟨7,.data⟩],none⟩) (v := (.agg #[.bool false,.slice am 0 cm])) rfl (by kernel_rfl) (fun _ _ _ h => h) (Or.inl ⟨by rfl,?_⟩) (KB.out _ GB.out) ?_
    ·intro w hSw;(try dsimp only at hSw);go_simp
    simp only [Act.put,sIb,sC0,sC1];refine zKA (i := 9) (oi := ⟨some 23,.extract (.tmp 14) 1,29, "plain.go:34",#[⟨7,.data⟩,⟨11,.gcOnly .lateStores⟩],none⟩) (v := (.int .i64 0)) rfl (by kernel_rfl) (fun _ _ _ h => h) (Or.inl ⟨by rfl,?_⟩) (KB.out _ GB.out) ?_
    ·intro w hSw;(try dsimp only at hSw);go_simp
    simp only [Act.put,sIb,sC0,sC1];refine zCA (i := 11) (o := ⟨none,.store 44 (.tmp 6) (.tmp 22),0, "plain.go:34",#[⟨10,.data⟩,⟨8,.data⟩,⟨6,.chain⟩,⟨0,.phase⟩,⟨1,.phase⟩,⟨2,.phase⟩,⟨3,.phase⟩,⟨4,.phase⟩,⟨5,.phase⟩,⟨6,.phase⟩,⟨7,.phase⟩,⟨8,.phase⟩,⟨9,.textOnly .lateStores⟩,⟨10,.phase⟩],none⟩) (by kernel_rfl) rfl (fun K hK => ?_);have r0 := PN.out.c0;have r1 := PN.out.c1;have f0 := PN.out.fz 0;have f1 := PN.out.fz 1;go_simp;clear r0 r1 f0 f1;obtain ⟨V12,hW⟩ : ∃ V12,((w11.setCell ⟨D1.heap.size,0,none⟩ (.bool false)).setCell ⟨D1.heap.size,1,none⟩ (.slice am 0 cm)) = V12 := ⟨_,rfl⟩
    have GE : Hid (Below wr.heap.size wr V12) := by unfold Hid;rw [← hW];exact bset (bset GB.out BN.out) BN.out
    have PF : Hid (Duo V12 D1.heap.size (.bool false) (.slice am 0 cm)) := by unfold Hid;rw [← hW];exact PN.out.set _ _
    replace GB := GE;clear PN GE;rw [hW];clear hW;refine hK.out _ _ (fun _ => KB.out _ GB.out) ?_;clear hK
    try simp only [Act.put]
    refine zKA (i := 12) (oi := ⟨some 7,.assign (.tmp 23),29, "plain.go:34",#[⟨9,.data⟩,⟨11,.chain⟩,⟨0,.phase⟩,⟨1,.phase⟩,⟨2,.phase⟩,⟨3,.phase⟩,⟨4,.phase⟩,⟨5,.phase⟩,⟨6,.phase⟩,⟨7,.phase⟩,⟨8,.phase⟩,⟨9,.phase⟩,⟨10,.phase⟩,⟨11,.phase⟩],none⟩) (v := (.int .i64 0)) rfl (by kernel_rfl) (fun _ _ _ h => h) (Or.inl ⟨by rfl,?_⟩) (KB.out _ GB.out) ?_
    ·intro w hSw;(try dsimp only at hSw);go_simp
    simp only [Act.put,sIb,sC0,sC1];refine zFA (by kernel_rfl) ?_ _;have q0 : ((0 : Int) != 0) = false := rfl;have x1 := PF.out.c1;have HN1 : Hid (ZrH w n (n - (i + 1)) (.int .i64 ((i + 1 : Nat) : Int)) V12) := ⟨i + 1,rfl,by omega,rfl,below_step G.out GB.out⟩
    clear GB KB G PF BN ZF HZI k0 k1;go_wp2_with fail;go_roundg (n - (i + 1))
    case rel => exact HN1.out
    case measure => exact HMM.out
  ·have hlt' : ¬ (i : Int) < (n : Int) := by omega
   clear HG;go_wp2;go_ret;exact ⟨rfl,G.out⟩
end Go.Proofs.YtkklldokdnfkgaaGreat
