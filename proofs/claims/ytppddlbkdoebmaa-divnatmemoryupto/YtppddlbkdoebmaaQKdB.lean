import Derived.Test.YtppddlbkdoebmaaQKdC
set_option maxRecDepth 100000
set_option maxHeartbeats 6400000
set_option linter.unusedVariables false
set_option linter.unusedSimpArgs false
namespace Go.Proofs.Ytppddlbkdoebmaa
open Go.RowKit
theorem keeps_b {w : World} {xs ys : List Int} {kind W K : Int} {aa ab : Option Addr} {ca cb na nb ra rb bi bo c6 c7 : Nat} {wtb : World} {bw lw c1w c2w : Nat} {a1w a2w : Option Addr} {qsw rsw : List Int} {rw nw ew : Int} {bx lx c1x c2x : Nat} {a1x a2x : Option Addr} {qsx rsx : List Int} {rx nx ex : Int} {byy lyy c1yy c2yy : Nat} {a1yy a2yy : Option Addr} {qsyy rsyy : List Int} {ryy nyy eyy : Int} {bz lz c1z c2z : Nat} {a1z a2z : Option Addr} {qsz rsz : List Int} {rz nz ez : Int} {bv lv c1v c2v : Nat} {a1v a2v : Option Addr} {qsv rsv : List Int} {rv nv ev : Int} {S1 S2 S3 : zMC} (la : na ≤ 1048576) (lb : nb ≤ 1048576) (CAL : Hid (zuA kind xs ys W K S1)) (CA2 : Hid (zuA kind [6,1] [4] 5 2 S2)) (CA3 : Hid (zuA kind (zPA xs) (zPA ys) W K S3)) (CA4 : Hid (zuA kind (lst (zPA xs)) (lst (zPA ys)) W K S3)) (LN1 : Hid (∀ (qs rs : List Int) (r N E : Int),S1 qs rs r N E → qs.length ≤ 1000000000 ∧ rs.length ≤ 1000000000)) (LN2 : Hid (∀ (qs rs : List Int) (r N E : Int),S2 qs rs r N E → qs.length ≤ 1000000000 ∧ rs.length ≤ 1000000000)) (LN3 : Hid (∀ (qs rs : List Int) (r N E : Int),S3 qs rs r N E → qs.length ≤ 1000000000 ∧ rs.length ≤ 1000000000)) (WX : Hid (WF xs)) (WY : Hid (WF ys)) (HNA : Hid (xs.length = na)) (HNB : Hid (ys.length = nb)) (HA : Hid (Sl w.heap.size w (.slice aa na ca) xs)) (HB : Hid (Sl w.heap.size w (.slice ab nb cb) ys)) (TWw : Hid (Two (.slice a1w qsw.length c1w) (.slice a2w rsw.length c2w))) (HSw : Hid (S1 qsw rsw rw nw ew)) (CHw : Hid (rb < lw)) (LOw : Hid (lw ≤ bw)) (TWx : Hid (Two (.slice a1x qsx.length c1x) (.slice a2x rsx.length c2x))) (HSx : Hid (S1 qsx rsx rx nx ex)) (CHx : Hid (bw < lx)) (LOx : Hid (lx ≤ bx)) (TWyy : Hid (Two (.slice a1yy qsyy.length c1yy) (.slice a2yy rsyy.length c2yy))) (HSyy : Hid (S1 qsyy rsyy ryy nyy eyy)) (CHyy : Hid (bx < lyy)) (LOyy : Hid (lyy ≤ byy)) (TWz : Hid (Two (.slice a1z qsz.length c1z) (.slice a2z rsz.length c2z))) (HSz : Hid (S2 qsz rsz rz nz ez)) (CHz : Hid (byy < lz)) (LOz : Hid (lz ≤ bz)) (TWv : Hid (Two (.slice a1v qsv.length c1v) (.slice a2v rsv.length c2v))) (HSv : Hid (S1 qsv rsv rv nv ev)) (CHv : Hid (bz < lv)) (LOv : Hid (lv ≤ bv)) (Ttb : Hid (St3 w ra rb (zPA xs) (zPA ys) [(bv,zKA (.slice a1v qsv.length c1v) (.slice a2v rsv.length c2v) rv nv ev),(bz,zKA (.slice a1z qsz.length c1z) (.slice a2z rsz.length c2z) rz nz ez),(byy,zKA (.slice a1yy qsyy.length c1yy) (.slice a2yy rsyy.length c2yy) ryy nyy eyy),(bx,zKA (.slice a1x qsx.length c1x) (.slice a2x rsx.length c2x) rx nx ex),(bo,opOf kind (.slice (some ⟨c6,0,none⟩) 2 2) (.slice (some ⟨c7,0,none⟩) 1 1) 5 2),(c7,.cells #[.int .u64 4] 26),(c6,.cells #[.int .u64 6,.int .u64 1] 26),(bw,zKA (.slice a1w qsw.length c1w) (.slice a2w rsw.length c2w) rw nw ew),(bi,opOf kind (.slice (some ⟨ra,0,none⟩) na (na + 80)) (.slice (some ⟨rb,0,none⟩) nb (nb + 80)) W K),(w.heap.size,opOf kind (.slice aa na ca) (.slice ab nb cb) W K)] [(lv,bv,.slice a1v qsv.length c1v,qsv),(lv,bv,.slice a2v rsv.length c2v,rsv),(lz,bz,.slice a1z qsz.length c1z,qsz),(lz,bz,.slice a2z rsz.length c2z,rsz),(lyy,byy,.slice a1yy qsyy.length c1yy,qsyy),(lyy,byy,.slice a2yy rsyy.length c2yy,rsyy),(lx,bx,.slice a1x qsx.length c1x,qsx),(lx,bx,.slice a2x rsx.length c2x,rsx),(lw,bw,.slice a1w qsw.length c1w,qsw),(lw,bw,.slice a2w rsw.length c2w,rsw)] wtb)) {u19 u20 u21 u22 u23 u24 u25 u26 u27 u28 u29 u30 u31 u32 u33 u34 u35 u36 u37 u38 u39 u40 u41 u42 u43 u44 u45 u46 u47 u48 u49 u50 u51 u52 u53 u54 u55 u56 u57 u58 u59 u60 u61 u62 u63 u64 u65 u66 u67 u68 u69 u70 u71 u72 u73 u74 u75 u76 u77 u78 u79 u80 u81 u82 u83 u84 u85 u86 u87 u88 u89 u90 u91 u92 u93 u94 u95 u96 u97 u98 u99 u100 u101 u102 u103 u104 u105 u106 u107 u108 u109 u110 u111 u112 u113 u114 u115 u116 u117 u118 u119 u120 u121 u122 u123 u124 u125 u126 u127 u128 u129 u130 u131 u132 u133 u134 u135 u136 u137 u138 u139 u140 u141 u142 u143 u144 u145 u146 u147 u148 u149 u150 u151 u152 u153 u154 u155 u156 u157 u158 u159 u160 u161 u162 u163 u164 u165 u166 u167 u168 u169 u170 u171 u172 u173 u174 u175 u176 u177 : Value} :
  Code.wp Try.prog kd16 (bodyPost Try.prog Try.f7 (zYB w)) ⟨List.toArray (.agg #[.int .i64 kind,.slice aa na ca,.slice ab nb cb,.int .u64 W,.int .i64 K] :: .pointer (some ⟨w.heap.size,0,none⟩) :: .bool false :: .slice (some ⟨ra,0,none⟩) (na + 80) (na + 80) :: .slice (some ⟨rb,0,none⟩) (nb + 80) (nb + 80) :: .pointer (some ⟨bi,0,none⟩) :: .pointer (some ⟨bw,0,none⟩) :: .pointer (some ⟨bo,0,none⟩) :: .pointer (some ⟨bx,0,none⟩) :: .pointer (some ⟨byy,0,none⟩) :: .pointer (some ⟨bz,0,none⟩) :: .pointer (some ⟨bv,0,none⟩) :: .bool true :: .bool true :: undef :: undef :: undef :: undef :: undef :: u19 :: u20 :: u21 :: u22 :: u23 :: u24 :: u25 :: u26 :: u27 :: u28 :: u29 :: u30 :: u31 :: u32 :: u33 :: u34 :: u35 :: u36 :: u37 :: u38 :: u39 :: u40 :: u41 :: u42 :: u43 :: u44 :: u45 :: u46 :: u47 :: u48 :: u49 :: u50 :: u51 :: u52 :: u53 :: u54 :: u55 :: u56 :: u57 :: u58 :: u59 :: u60 :: u61 :: u62 :: u63 :: u64 :: u65 :: u66 :: u67 :: u68 :: u69 :: u70 :: u71 :: u72 :: u73 :: u74 :: u75 :: u76 :: u77 :: u78 :: u79 :: u80 :: u81 :: u82 :: u83 :: u84 :: u85 :: u86 :: u87 :: u88 :: u89 :: u90 :: u91 :: u92 :: u93 :: u94 :: u95 :: u96 :: u97 :: u98 :: u99 :: u100 :: u101 :: u102 :: u103 :: u104 :: u105 :: u106 :: u107 :: u108 :: u109 :: u110 :: u111 :: u112 :: u113 :: u114 :: u115 :: u116 :: u117 :: u118 :: u119 :: u120 :: u121 :: u122 :: u123 :: u124 :: u125 :: u126 :: u127 :: u128 :: u129 :: u130 :: u131 :: u132 :: u133 :: u134 :: u135 :: u136 :: u137 :: u138 :: u139 :: u140 :: u141 :: u142 :: u143 :: u144 :: u145 :: u146 :: u147 :: u148 :: u149 :: u150 :: u151 :: u152 :: u153 :: u154 :: u155 :: u156 :: u157 :: u158 :: u159 :: u160 :: u161 :: u162 :: u163 :: u164 :: u165 :: u166 :: u167 :: u168 :: u169 :: u170 :: u171 :: u172 :: u173 :: u174 :: u175 :: u176 :: u177 :: []),[]⟩ wtb := by
 conv => arg 2;whnf
 go_upto_region 16 with fail
 go_cut [14] from 19 (fun s14 wnew => ∃ (bn hn : Nat) (a1 a2 : Option Addr) (c1 c2 m1 m2 : Nat),s14 = .pointer (some ⟨bn,0,none⟩) ∧ St3 w ra rb (zPA xs) (zPA ys) ((bn,opOf kind (.slice a1 m1 c1) (.slice a2 m2 c2) W K) :: [(bv,zKA (.slice a1v qsv.length c1v) (.slice a2v rsv.length c2v) rv nv ev),(bz,zKA (.slice a1z qsz.length c1z) (.slice a2z rsz.length c2z) rz nz ez),(byy,zKA (.slice a1yy qsyy.length c1yy) (.slice a2yy rsyy.length c2yy) ryy nyy eyy),(bx,zKA (.slice a1x qsx.length c1x) (.slice a2x rsx.length c2x) rx nx ex),(bo,opOf kind (.slice (some ⟨c6,0,none⟩) 2 2) (.slice (some ⟨c7,0,none⟩) 1 1) 5 2),(c7,.cells #[.int .u64 4] 26),(c6,.cells #[.int .u64 6,.int .u64 1] 26),(bw,zKA (.slice a1w qsw.length c1w) (.slice a2w rsw.length c2w) rw nw ew),(bi,opOf kind (.slice (some ⟨ra,0,none⟩) na (na + 80)) (.slice (some ⟨rb,0,none⟩) nb (nb + 80)) W K),(w.heap.size,opOf kind (.slice aa na ca) (.slice ab nb cb) W K)]) ((wtb.heap.size,hn,.slice a1 m1 c1,lst (zPA xs)) :: (wtb.heap.size,hn,.slice a2 m2 c2,lst (zPA ys)) :: [(lv,bv,.slice a1v qsv.length c1v,qsv),(lv,bv,.slice a2v rsv.length c2v,rsv),(lz,bz,.slice a1z qsz.length c1z,qsz),(lz,bz,.slice a2z rsz.length c2z,rsz),(lyy,byy,.slice a1yy qsyy.length c1yy,qsyy),(lyy,byy,.slice a2yy rsyy.length c2yy,rsyy),(lx,bx,.slice a1x qsx.length c1x,qsx),(lx,bx,.slice a2x rsx.length c2x,rsx),(lw,bw,.slice a1w qsw.length c1w,qsw),(lw,bw,.slice a2w rsw.length c2w,rsw)]) wnew)
 case first =>
  have HLA : Hid (∀ wr,Below wtb.heap.size wtb wr → Calls Try.prog 15 #[.slice (some ⟨ra,0,none⟩) na (na + 80)] wr (fun e w' => ∃ a m c,e = .returned (.slice a m c) ∧ Own wtb.heap.size w' (.slice a m c) (lst (zPA xs)) ∧ Below wr.heap.size wr w')) := hid fun wr hb => (zLE ((Ttb.out.step hb).ma.part (zPB xs) (by rw [zUA];exact HNA.out) (by omega)) (by rw [zUA,HNA.out];omega)).mono fun e w' ⟨a,m,c,h1,h2,h3⟩ => ⟨a,m,c,h1,h2.lower hb.size,h3⟩
  have HLB : Hid (∀ wr,Below wtb.heap.size wtb wr → Calls Try.prog 15 #[.slice (some ⟨rb,0,none⟩) nb (nb + 80)] wr (fun e w' => ∃ a m c,e = .returned (.slice a m c) ∧ Own wtb.heap.size w' (.slice a m c) (lst (zPA ys)) ∧ Below wr.heap.size wr w')) := hid fun wr hb => (zLE ((Ttb.out.step hb).mb.part (zPB ys) (by rw [zUA];exact HNB.out) (by omega)) (by rw [zUA,HNB.out];omega)).mono fun e w' ⟨a,m,c,h1,h2,h3⟩ => ⟨a,m,c,h1,h2.lower hb.size,h3⟩
  have HT := hid (Ttb.out);obtain ⟨q0,q1,q2,q3,q4⟩ := zEA (Ttb.out.bx (w.heap.size,_) (by repeat (first | exact List.Mem.head _ | apply List.Mem.tail)));have hna2 : (na : Int) ≤ ((na + 80 : Nat) : Int) := by omega
  have hnb2 : (nb : Int) ≤ ((nb + 80 : Nat) : Int) := by omega
  have sla := zIE ra (na + 80) (na + 80) na (by omega) (Nat.le_refl _);have slb := zIE rb (nb + 80) (nb + 80) nb (by omega) (Nat.le_refl _);clear Ttb;have KB : Hid (∀ w',Below wtb.heap.size wtb w' → w'.cell? ⟨w.heap.size,0,none⟩ = some (.int .i64 kind) ∧ w'.cell? ⟨w.heap.size,1,none⟩ = some (.slice aa na ca) ∧ w'.cell? ⟨w.heap.size,2,none⟩ = some (.slice ab nb cb) ∧ w'.cell? ⟨w.heap.size,3,none⟩ = some (.int .u64 W) ∧ w'.cell? ⟨w.heap.size,4,none⟩ = some (.int .i64 K)) := fun w' h => ⟨cnow h q0,cnow h q1,cnow h q2,cnow h q3,cnow h q4⟩
  refine wp_region_tail (fun w' => w'.cell? ⟨w.heap.size,0,none⟩ = some (.int .i64 kind) ∧ w'.cell? ⟨w.heap.size,1,none⟩ = some (.slice aa na ca) ∧ w'.cell? ⟨w.heap.size,2,none⟩ = some (.slice ab nb cb) ∧ w'.cell? ⟨w.heap.size,3,none⟩ = some (.int .u64 W) ∧ w'.cell? ⟨w.heap.size,4,none⟩ = some (.int .i64 K)) 20 (by kernel_rfl) ?_;obtain ⟨D161,hD⟩ : ∃ D161,wtb.drew = D161 := ⟨_,rfl⟩
  have GB : Hid (Below wtb.heap.size wtb D161) := by unfold Hid;rw [← hD];exact (Below.refl _ _).drew
  rw [hD];clear hD;have LB : Hid (wtb.heap.size ≤ D161.heap.size) := hid GB.out.size;refine zLA (i := 0) (oi := ⟨some 110,.fieldAddr 28 (.tmp 1) 0,0, "plain.go:224",#[],none⟩) (v := (.pointer (some ⟨w.heap.size,0,none⟩))) rfl (by kernel_rfl) (fun _ _ _ h => h) (Or.inl ⟨by rfl,?_⟩) (KB.out _ GB.out) ?_
  ·intro w hSw;(try dsimp only at hSw);go_simp
  simp only [Act.put,sIb,sC0,sC1];refine zLA (i := 1) (oi := ⟨some 111,.load 3 (.tmp 110),3, "plain.go:224",#[⟨0,.data⟩],none⟩) (v := (.int .i64 kind)) rfl (by kernel_rfl) (fun _ _ _ h => h) (Or.inl ⟨by rfl,?_⟩) (KB.out _ GB.out) ?_
  ·intro w hSw;(try dsimp only at hSw);go_simp
  simp only [Act.put,sIb,sC0,sC1];refine zLA (i := 2) (oi := ⟨some 112,.move (.tmp 3),25, "plain.go:224",#[],none⟩) (v := (.slice (some ⟨ra,0,none⟩) (na + 80) (na + 80))) rfl (by kernel_rfl) (fun _ _ _ h => h) (Or.inl ⟨by rfl,?_⟩) (KB.out _ GB.out) ?_
  ·intro w hSw;(try dsimp only at hSw);go_simp
  simp only [Act.put,sIb,sC0,sC1];refine zLA (i := 3) (oi := ⟨some 113,.fieldAddr 28 (.tmp 1) 1,0, "plain.go:224",#[],none⟩) (v := (.pointer (some ⟨w.heap.size,1,none⟩))) rfl (by kernel_rfl) (fun _ _ _ h => h) (Or.inl ⟨by rfl,?_⟩) (KB.out _ GB.out) ?_
  ·intro w hSw;(try dsimp only at hSw);go_simp
  simp only [Act.put,sIb,sC0,sC1];refine zLA (i := 4) (oi := ⟨some 114,.load 25 (.tmp 113),25, "plain.go:224",#[⟨3,.data⟩],none⟩) (v := (.slice aa na ca)) rfl (by kernel_rfl) (fun _ _ _ h => h) (Or.inl ⟨by rfl,?_⟩) (KB.out _ GB.out) ?_
  ·intro w hSw;(try dsimp only at hSw);go_simp
  simp only [Act.put,sIb,sC0,sC1];refine zLA (i := 5) (oi := ⟨some 115,.call { callee := .builtin .len,args := #[.tmp 114],argTypes := #[25] },3, "plain.go:224",#[⟨4,.data⟩],none⟩) (v := (.int .i64 (na : Int))) rfl (by kernel_rfl) (fun _ _ _ h => h) (Or.inl ⟨by rfl,?_⟩) (KB.out _ GB.out) ?_
  ·intro w hSw;(try dsimp only at hSw);go_simp
  simp only [Act.put,sIb,sC0,sC1];refine zLA (i := 6) (oi := ⟨some 116,.slice 25 (.tmp 112) none (some (.tmp 115)) none,25, "plain.go:224",#[⟨2,.data⟩,⟨5,.data⟩],none⟩) (v := (.slice (some ⟨ra,0,none⟩) na (na + 80))) rfl (by kernel_rfl) (fun _ _ _ h => h) (Or.inl ⟨by rfl,?_⟩) (KB.out _ GB.out) ?_
  ·intro w hSw;(try dsimp only at hSw);go_simp
  simp only [Act.put,sIb,sC0,sC1];refine zLA (i := 8) (oi := ⟨some 118,.move (.tmp 4),25, "plain.go:224",#[],none⟩) (v := (.slice (some ⟨rb,0,none⟩) (nb + 80) (nb + 80))) rfl (by kernel_rfl) (fun _ _ _ h => h) (Or.inl ⟨by rfl,?_⟩) (KB.out _ GB.out) ?_
  ·intro w hSw;(try dsimp only at hSw);go_simp
  simp only [Act.put,sIb,sC0,sC1];refine zLA (i := 9) (oi := ⟨some 119,.fieldAddr 28 (.tmp 1) 2,0, "plain.go:224",#[],none⟩) (v := (.pointer (some ⟨w.heap.size,2,none⟩))) rfl (by kernel_rfl) (fun _ _ _ h => h) (Or.inl ⟨by rfl,?_⟩) (KB.out _ GB.out) ?_
  ·intro w hSw;(try dsimp only at hSw);go_simp
  simp only [Act.put,sIb,sC0,sC1];refine zLA (i := 10) (oi := ⟨some 120,.load 25 (.tmp 119),25, "plain.go:224",#[⟨9,.data⟩],none⟩) (v := (.slice ab nb cb)) rfl (by kernel_rfl) (fun _ _ _ h => h) (Or.inl ⟨by rfl,?_⟩) (KB.out _ GB.out) ?_
  ·intro w hSw;(try dsimp only at hSw);go_simp
  simp only [Act.put,sIb,sC0,sC1];refine zLA (i := 11) (oi := ⟨some 121,.call { callee := .builtin .len,args := #[.tmp 120],argTypes := #[25] },3, "plain.go:224",#[⟨10,.data⟩],none⟩) (v := (.int .i64 (nb : Int))) rfl (by kernel_rfl) (fun _ _ _ h => h) (Or.inl ⟨by rfl,?_⟩) (KB.out _ GB.out) ?_
  ·intro w hSw;(try dsimp only at hSw);go_simp
  simp only [Act.put,sIb,sC0,sC1];refine zLA (i := 12) (oi := ⟨some 122,.slice 25 (.tmp 118) none (some (.tmp 121)) none,25, "plain.go:224",#[⟨8,.data⟩,⟨11,.data⟩],none⟩) (v := (.slice (some ⟨rb,0,none⟩) nb (nb + 80))) rfl (by kernel_rfl) (fun _ _ _ h => h) (Or.inl ⟨by rfl,?_⟩) (KB.out _ GB.out) ?_
  ·intro w hSw;(try dsimp only at hSw);go_simp
  simp only [Act.put,sIb,sC0,sC1];refine zLA (i := 14) (oi := ⟨some 124,.fieldAddr 28 (.tmp 1) 3,0, "plain.go:224",#[],none⟩) (v := (.pointer (some ⟨w.heap.size,3,none⟩))) rfl (by kernel_rfl) (fun _ _ _ h => h) (Or.inl ⟨by rfl,?_⟩) (KB.out _ GB.out) ?_
  ·intro w hSw;(try dsimp only at hSw);go_simp
  simp only [Act.put,sIb,sC0,sC1];refine zLA (i := 15) (oi := ⟨some 125,.load 26 (.tmp 124),26, "plain.go:224",#[⟨14,.data⟩],none⟩) (v := (.int .u64 W)) rfl (by kernel_rfl) (fun _ _ _ h => h) (Or.inl ⟨by rfl,?_⟩) (KB.out _ GB.out) ?_
  ·intro w hSw;(try dsimp only at hSw);go_simp
  simp only [Act.put,sIb,sC0,sC1];refine zLA (i := 16) (oi := ⟨some 126,.fieldAddr 28 (.tmp 1) 4,0, "plain.go:224",#[],none⟩) (v := (.pointer (some ⟨w.heap.size,4,none⟩))) rfl (by kernel_rfl) (fun _ _ _ h => h) (Or.inl ⟨by rfl,?_⟩) (KB.out _ GB.out) ?_
  ·intro w hSw;(try dsimp only at hSw);go_simp
  simp only [Act.put,sIb,sC0,sC1];refine zLA (i := 17) (oi := ⟨some 127,.load 3 (.tmp 126),3, "plain.go:224",#[⟨16,.data⟩],none⟩) (v := (.int .i64 K)) rfl (by kernel_rfl) (fun _ _ _ h => h) (Or.inl ⟨by rfl,?_⟩) (KB.out _ GB.out) ?_
  ·intro w hSw;(try dsimp only at hSw);go_simp
  simp only [Act.put,sIb,sC0,sC1];refine zDE (i := 7) (j := 19) (oi := ⟨some 117,.call { callee := .value (.func 15),args := #[.tmp 116],argTypes := #[25] },25, "plain.go:224",#[⟨6,.data⟩],none⟩) (oj := ⟨some 14,.alloc 28,0, "plain.go:224",#[],none⟩) (by kernel_rfl) rfl rfl (fun KR hK => ?_) (fun KR hK => ?_)
  ·skip
   go_simp;go_at_call 15;refine (HLA.out _ GB.out).mono ?_;rintro e w162 ⟨aA,mA,cA,rfl,oA,b⟩;have lz162 := (show Below _ _ _ from b).size;replace GB := hid (zAA GB.out b);have OA := hid oA;clear oA;replace LB := hid GB.out.size;clear b;refine hK.out _ _ (fun _ => KB.out _ GB.out) ?_;clear hK;refine zDE (i := 13) (j := 19) (oi := ⟨some 123,.call { callee := .value (.func 15),args := #[.tmp 122],argTypes := #[25] },25, "plain.go:224",#[⟨12,.data⟩,⟨7,.chain⟩],none⟩) (oj := ⟨some 14,.alloc 28,0, "plain.go:224",#[],none⟩) (by kernel_rfl) rfl rfl (fun KR hK => ?_) (fun KR hK => ?_)
   ·skip
    go_simp;go_at_call 15;refine (HLB.out _ GB.out).mono ?_;rintro e w163 ⟨aB,mB,cB,rfl,oB,b⟩;have lz163 := (show Below _ _ _ from b).size;replace GB := hid (zAA GB.out b);replace OA := hid (OA.out.stay b);have OB := hid oB;clear oB;replace LB := hid GB.out.size;clear b;refine hK.out _ _ (fun _ => KB.out _ GB.out) ?_;clear hK;refine zLA (i := 18) (oi := ⟨some 128,.build 28 #[(0,.tmp 111),(1,.tmp 117),(2,.tmp 123),(3,.tmp 125),(4,.tmp 127)],28, "plain.go:224",#[⟨1,.data⟩,⟨7,.data⟩,⟨13,.data⟩,⟨15,.data⟩,⟨17,.data⟩],none⟩) (v := (.agg #[.int .i64 kind,.slice aA mA cA,.slice aB mB cB,.int .u64 W,.int .i64 K])) rfl (by kernel_rfl) (fun _ _ _ h => h) (Or.inl ⟨by rfl,?_⟩) (KB.out _ GB.out) ?_
    ·intro w hSw;(try dsimp only at hSw);go_simp
    simp only [Act.put,sIb,sC0,sC1];refine zBB (i := 19) (o := ⟨some 14,.alloc 28,0, "plain.go:224",#[],none⟩) (by kernel_rfl) rfl (fun KR hK => ?_);go_simp;obtain ⟨V164,hW⟩ : ∃ V164,w163.alloc opZ = V164 := ⟨_,rfl⟩
    obtain ⟨b,sz164⟩ := alo1 w163 opZ;rw [hW] at b sz164;replace GB := hid (zAA GB.out b);replace OA := hid (OA.out.stay b);replace OB := hid (OB.out.stay b);have DZ : Hid (V164.heap[w163.heap.size]? = some opZ) := hid (by rw [← hW];exact heap_alloc_new _ _);have LZ : Hid (wtb.heap.size ≤ w163.heap.size) := hid LB.out;replace LB := hid GB.out.size;clear sz164;rw [hW];clear hW b;refine hK.out _ _ (fun _ => KB.out _ GB.out) ?_;clear hK
    try simp only [Act.put]
    refine zBB (i := 20) (o := ⟨none,.store 28 (.tmp 14) (.tmp 128),0, "plain.go:224",#[⟨19,.data⟩,⟨18,.data⟩,⟨13,.chain⟩,⟨0,.phase⟩,⟨1,.phase⟩,⟨2,.phase⟩,⟨3,.phase⟩,⟨4,.phase⟩,⟨5,.phase⟩,⟨6,.phase⟩,⟨7,.phase⟩,⟨8,.phase⟩,⟨9,.phase⟩,⟨10,.phase⟩,⟨11,.phase⟩,⟨12,.phase⟩,⟨13,.phase⟩,⟨14,.phase⟩,⟨15,.phase⟩,⟨16,.phase⟩,⟨17,.phase⟩,⟨18,.phase⟩,⟨19,.phase⟩],none⟩) (by kernel_rfl) rfl (fun KR hK => ?_);obtain ⟨z0,z1,z2,z3,z4⟩ := zEA DZ.out;obtain ⟨zf0,zf1,zf2,zf3,zf4⟩ := zWD DZ.out;go_simp;clear z0 z1 z2 z3 z4 zf0 zf1 zf2 zf3 zf4;obtain ⟨V165,hW⟩ : ∃ V165,(((((V164.setCell ⟨w163.heap.size,0,none⟩ (.int .i64 kind)).setCell ⟨w163.heap.size,1,none⟩ (.slice aA mA cA)).setCell ⟨w163.heap.size,2,none⟩ (.slice aB mB cB)).setCell ⟨w163.heap.size,3,none⟩ (.int .u64 W)).setCell ⟨w163.heap.size,4,none⟩ (.int .i64 K)) = V165 := ⟨_,rfl⟩
    have FIN := hid (zbE HT.out GB.out OA.out OB.out DZ.out LZ.out hW.symm);rw [hW];clear hW;refine hK.out _ _ (fun h => absurd h (by decide)) ?_;clear hK
    try simp only [Act.put]
    refine zWC (by kernel_rfl) ?_ _;clear KB GB DZ LZ LB OA OB HLA HLB HT;go_wp2_with fail;go_meet;exact ⟨_,_,aA,aB,cA,cB,mA,mB,rfl,FIN.out⟩
   ·skip
    go_simp;obtain ⟨V166,hW⟩ : ∃ V166,w162.alloc opZ = V166 := ⟨_,rfl⟩
    obtain ⟨b,sz166⟩ := alo1 w162 opZ;rw [hW] at b sz166;replace GB := hid (zAA GB.out b);replace OA := hid (OA.out.stay b);have DZ : Hid (V166.heap[w162.heap.size]? = some opZ) := hid (by rw [← hW];exact heap_alloc_new _ _);have LZ : Hid (wtb.heap.size ≤ w162.heap.size) := hid LB.out;replace LB := hid GB.out.size;clear sz166;rw [hW];clear hW b;refine hK.out _ _ (fun _ => KB.out _ GB.out) ?_;clear hK
    try simp only [Act.put]
    refine zBB (i := 13) (o := ⟨some 123,.call { callee := .value (.func 15),args := #[.tmp 122],argTypes := #[25] },25, "plain.go:224",#[⟨12,.data⟩,⟨7,.chain⟩],none⟩) (by kernel_rfl) rfl (fun KR hK => ?_);go_simp;go_at_call 15;refine (HLB.out _ GB.out).mono ?_;rintro e w167 ⟨aB,mB,cB,rfl,oB,b⟩;have lz167 := (show Below _ _ _ from b).size;replace GB := hid (zAA GB.out b);replace OA := hid (OA.out.stay b);replace DZ := hid ((b.block _ (znG DZ.out)).trans DZ.out);have OB := hid oB;clear oB;replace LB := hid GB.out.size;clear b;refine hK.out _ _ (fun _ => KB.out _ GB.out) ?_;clear hK;refine zLA (i := 18) (oi := ⟨some 128,.build 28 #[(0,.tmp 111),(1,.tmp 117),(2,.tmp 123),(3,.tmp 125),(4,.tmp 127)],28, "plain.go:224",#[⟨1,.data⟩,⟨7,.data⟩,⟨13,.data⟩,⟨15,.data⟩,⟨17,.data⟩],none⟩) (v := (.agg #[.int .i64 kind,.slice aA mA cA,.slice aB mB cB,.int .u64 W,.int .i64 K])) rfl (by kernel_rfl) (fun _ _ _ h => h) (Or.inl ⟨by rfl,?_⟩) (KB.out _ GB.out) ?_
    ·intro w hSw;(try dsimp only at hSw);go_simp
    simp only [Act.put,sIb,sC0,sC1];refine zBB (i := 20) (o := ⟨none,.store 28 (.tmp 14) (.tmp 128),0, "plain.go:224",#[⟨19,.data⟩,⟨18,.data⟩,⟨13,.chain⟩,⟨0,.phase⟩,⟨1,.phase⟩,⟨2,.phase⟩,⟨3,.phase⟩,⟨4,.phase⟩,⟨5,.phase⟩,⟨6,.phase⟩,⟨7,.phase⟩,⟨8,.phase⟩,⟨9,.phase⟩,⟨10,.phase⟩,⟨11,.phase⟩,⟨12,.phase⟩,⟨13,.phase⟩,⟨14,.phase⟩,⟨15,.phase⟩,⟨16,.phase⟩,⟨17,.phase⟩,⟨18,.phase⟩,⟨19,.phase⟩],none⟩) (by kernel_rfl) rfl (fun KR hK => ?_);obtain ⟨z0,z1,z2,z3,z4⟩ := zEA DZ.out;obtain ⟨zf0,zf1,zf2,zf3,zf4⟩ := zWD DZ.out;go_simp;clear z0 z1 z2 z3 z4 zf0 zf1 zf2 zf3 zf4;obtain ⟨V168,hW⟩ : ∃ V168,(((((w167.setCell ⟨w162.heap.size,0,none⟩ (.int .i64 kind)).setCell ⟨w162.heap.size,1,none⟩ (.slice aA mA cA)).setCell ⟨w162.heap.size,2,none⟩ (.slice aB mB cB)).setCell ⟨w162.heap.size,3,none⟩ (.int .u64 W)).setCell ⟨w162.heap.size,4,none⟩ (.int .i64 K)) = V168 := ⟨_,rfl⟩
    have FIN := hid (zbE HT.out GB.out OA.out OB.out DZ.out LZ.out hW.symm);rw [hW];clear hW;refine hK.out _ _ (fun h => absurd h (by decide)) ?_;clear hK
    try simp only [Act.put]
    refine zWC (by kernel_rfl) ?_ _;clear KB GB DZ LZ LB OA OB HLA HLB HT;go_wp2_with fail;go_meet;exact ⟨_,_,aA,aB,cA,cB,mA,mB,rfl,FIN.out⟩
  ·skip
   go_simp;obtain ⟨V169,hW⟩ : ∃ V169,D161.alloc opZ = V169 := ⟨_,rfl⟩
   obtain ⟨b,sz169⟩ := alo1 D161 opZ;rw [hW] at b sz169;replace GB := hid (zAA GB.out b);have DZ : Hid (V169.heap[D161.heap.size]? = some opZ) := hid (by rw [← hW];exact heap_alloc_new _ _);have LZ : Hid (wtb.heap.size ≤ D161.heap.size) := hid LB.out;replace LB := hid GB.out.size;clear sz169;rw [hW];clear hW b;refine hK.out _ _ (fun _ => KB.out _ GB.out) ?_;clear hK
   try simp only [Act.put]
   refine zBB (i := 7) (o := ⟨some 117,.call { callee := .value (.func 15),args := #[.tmp 116],argTypes := #[25] },25, "plain.go:224",#[⟨6,.data⟩],none⟩) (by kernel_rfl) rfl (fun KR hK => ?_);go_simp;go_at_call 15;refine (HLA.out _ GB.out).mono ?_;rintro e w170 ⟨aA,mA,cA,rfl,oA,b⟩;have lz170 := (show Below _ _ _ from b).size;replace GB := hid (zAA GB.out b);replace DZ := hid ((b.block _ (znG DZ.out)).trans DZ.out);have OA := hid oA;clear oA;replace LB := hid GB.out.size;clear b;refine hK.out _ _ (fun _ => KB.out _ GB.out) ?_;clear hK;refine zBB (i := 13) (o := ⟨some 123,.call { callee := .value (.func 15),args := #[.tmp 122],argTypes := #[25] },25, "plain.go:224",#[⟨12,.data⟩,⟨7,.chain⟩],none⟩) (by kernel_rfl) rfl (fun KR hK => ?_);go_simp;go_at_call 15;refine (HLB.out _ GB.out).mono ?_;rintro e w171 ⟨aB,mB,cB,rfl,oB,b⟩;have lz171 := (show Below _ _ _ from b).size;replace GB := hid (zAA GB.out b);replace OA := hid (OA.out.stay b);replace DZ := hid ((b.block _ (znG DZ.out)).trans DZ.out);have OB := hid oB;clear oB;replace LB := hid GB.out.size;clear b;refine hK.out _ _ (fun _ => KB.out _ GB.out) ?_;clear hK;refine zLA (i := 18) (oi := ⟨some 128,.build 28 #[(0,.tmp 111),(1,.tmp 117),(2,.tmp 123),(3,.tmp 125),(4,.tmp 127)],28, "plain.go:224",#[⟨1,.data⟩,⟨7,.data⟩,⟨13,.data⟩,⟨15,.data⟩,⟨17,.data⟩],none⟩) (v := (.agg #[.int .i64 kind,.slice aA mA cA,.slice aB mB cB,.int .u64 W,.int .i64 K])) rfl (by kernel_rfl) (fun _ _ _ h => h) (Or.inl ⟨by rfl,?_⟩) (KB.out _ GB.out) ?_
   ·intro w hSw;(try dsimp only at hSw);go_simp
   simp only [Act.put,sIb,sC0,sC1];refine zBB (i := 20) (o := ⟨none,.store 28 (.tmp 14) (.tmp 128),0, "plain.go:224",#[⟨19,.data⟩,⟨18,.data⟩,⟨13,.chain⟩,⟨0,.phase⟩,⟨1,.phase⟩,⟨2,.phase⟩,⟨3,.phase⟩,⟨4,.phase⟩,⟨5,.phase⟩,⟨6,.phase⟩,⟨7,.phase⟩,⟨8,.phase⟩,⟨9,.phase⟩,⟨10,.phase⟩,⟨11,.phase⟩,⟨12,.phase⟩,⟨13,.phase⟩,⟨14,.phase⟩,⟨15,.phase⟩,⟨16,.phase⟩,⟨17,.phase⟩,⟨18,.phase⟩,⟨19,.phase⟩],none⟩) (by kernel_rfl) rfl (fun KR hK => ?_);obtain ⟨z0,z1,z2,z3,z4⟩ := zEA DZ.out;obtain ⟨zf0,zf1,zf2,zf3,zf4⟩ := zWD DZ.out;go_simp;clear z0 z1 z2 z3 z4 zf0 zf1 zf2 zf3 zf4;obtain ⟨V172,hW⟩ : ∃ V172,(((((w171.setCell ⟨D161.heap.size,0,none⟩ (.int .i64 kind)).setCell ⟨D161.heap.size,1,none⟩ (.slice aA mA cA)).setCell ⟨D161.heap.size,2,none⟩ (.slice aB mB cB)).setCell ⟨D161.heap.size,3,none⟩ (.int .u64 W)).setCell ⟨D161.heap.size,4,none⟩ (.int .i64 K)) = V172 := ⟨_,rfl⟩
   have FIN := hid (zbE HT.out GB.out OA.out OB.out DZ.out LZ.out hW.symm);rw [hW];clear hW;refine hK.out _ _ (fun h => absurd h (by decide)) ?_;clear hK
   try simp only [Act.put]
   refine zWC (by kernel_rfl) ?_ _;clear KB GB DZ LZ LB OA OB HLA HLB HT;go_wp2_with fail;go_meet;exact ⟨_,_,aA,aB,cA,cB,mA,mB,rfl,FIN.out⟩
 case rest =>
  obtain ⟨bn,hn,a1n,a2n,c1n,c2n,m1n,m2n,rfl,ht⟩ := hcut
  rename World => wn
  have Tn := hid ht;clear ht Ttb;obtain ⟨ln,hln⟩ : ∃ b,wtb.heap.size = b := ⟨_,rfl⟩
  rw [hln] at Tn;clear hln;go_upto_region 17 with fail
  go_cut [15] from 19 (fun s15 wnew => Ansd w ra rb (zPA xs) (zPA ys) [(bn,opOf kind (.slice a1n m1n c1n) (.slice a2n m2n c2n) W K),(bv,zKA (.slice a1v qsv.length c1v) (.slice a2v rsv.length c2v) rv nv ev),(bz,zKA (.slice a1z qsz.length c1z) (.slice a2z rsz.length c2z) rz nz ez),(byy,zKA (.slice a1yy qsyy.length c1yy) (.slice a2yy rsyy.length c2yy) ryy nyy eyy),(bx,zKA (.slice a1x qsx.length c1x) (.slice a2x rsx.length c2x) rx nx ex),(bo,opOf kind (.slice (some ⟨c6,0,none⟩) 2 2) (.slice (some ⟨c7,0,none⟩) 1 1) 5 2),(c7,.cells #[.int .u64 4] 26),(c6,.cells #[.int .u64 6,.int .u64 1] 26),(bw,zKA (.slice a1w qsw.length c1w) (.slice a2w rsw.length c2w) rw nw ew),(bi,opOf kind (.slice (some ⟨ra,0,none⟩) na (na + 80)) (.slice (some ⟨rb,0,none⟩) nb (nb + 80)) W K),(w.heap.size,opOf kind (.slice aa na ca) (.slice ab nb cb) W K)] [(ln,hn,.slice a1n m1n c1n,lst (zPA xs)),(ln,hn,.slice a2n m2n c2n,lst (zPA ys)),(lv,bv,.slice a1v qsv.length c1v,qsv),(lv,bv,.slice a2v rsv.length c2v,rsv),(lz,bz,.slice a1z qsz.length c1z,qsz),(lz,bz,.slice a2z rsz.length c2z,rsz),(lyy,byy,.slice a1yy qsyy.length c1yy,qsyy),(lyy,byy,.slice a2yy rsyy.length c2yy,rsyy),(lx,bx,.slice a1x qsx.length c1x,qsx),(lx,bx,.slice a2x rsx.length c2x,rsx),(lw,bw,.slice a1w qsw.length c1w,qsw),(lw,bw,.slice a2w rsw.length c2w,rsw)] S3 wn.heap.size s15 wnew)
  case first =>
   obtain ⟨i0,i1,i2,i3,i4⟩ := zEA (Tn.out.bx (bi,_) (by repeat (first | exact List.Mem.head _ | apply List.Mem.tail)));go_wp2_with fail;refine (CA3.out.2.2 wn _ _ (Tn.out.ma.part (zPB xs) (by rw [zUA];exact HNA.out) (by omega)) (Tn.out.mb.part (zPB ys) (by rw [zUA];exact HNB.out) (by omega))).mono ?_;rintro e wc ⟨qs,rs,r1,n1,e1,hs,vq,vr,rfl,oq,or_,tw,kk⟩;obtain ⟨aq,cq,rfl⟩ := oq.form;obtain ⟨ar,cr,rfl⟩ := or_.form;have FIN := hid (zBD Tn.out hs oq or_ tw kk);clear kk oq or_ tw hs Tn i0 i1 i2 i3 i4;go_wp2_with fail;go_meet;exact FIN.out
  case rest =>
   obtain ⟨bu,a1u,a2u,c1u,c2u,qsu,rsu,ru,nu,eu,rfl,hsu,twu,lou,hiu,ht⟩ := hcut
   rename World => wu
   have Tu := hid ht;have TWu := hid twu;have HSu := hid hsu;have LOu := hid lou;have HIu := hid hiu;have CHu : Hid (bv < wn.heap.size) := hid (Tn.out.blt (p := (bv,_)) (by repeat (first | exact List.Mem.head _ | apply List.Mem.tail)));clear ht Tn twu hsu lou hiu;obtain ⟨lu,hlu⟩ : ∃ b,wn.heap.size = b := ⟨_,rfl⟩
   rw [hlu] at Tu LOu CHu;clear hlu;replace HIu := hid (Nat.lt_of_lt_of_le HIu.out (Nat.le_refl _));go_upto_region 18 with fail
   go_cut [153] from 19 (fun s153 wnew => s153 = .bool false ∧ St3 w ra rb (zPA xs) (zPA ys) [(bu,zKA (.slice a1u qsu.length c1u) (.slice a2u rsu.length c2u) ru nu eu),(bn,opOf kind (.slice a1n m1n c1n) (.slice a2n m2n c2n) W K),(bv,zKA (.slice a1v qsv.length c1v) (.slice a2v rsv.length c2v) rv nv ev),(bz,zKA (.slice a1z qsz.length c1z) (.slice a2z rsz.length c2z) rz nz ez),(byy,zKA (.slice a1yy qsyy.length c1yy) (.slice a2yy rsyy.length c2yy) ryy nyy eyy),(bx,zKA (.slice a1x qsx.length c1x) (.slice a2x rsx.length c2x) rx nx ex),(bo,opOf kind (.slice (some ⟨c6,0,none⟩) 2 2) (.slice (some ⟨c7,0,none⟩) 1 1) 5 2),(c7,.cells #[.int .u64 4] 26),(c6,.cells #[.int .u64 6,.int .u64 1] 26),(bw,zKA (.slice a1w qsw.length c1w) (.slice a2w rsw.length c2w) rw nw ew),(bi,opOf kind (.slice (some ⟨ra,0,none⟩) na (na + 80)) (.slice (some ⟨rb,0,none⟩) nb (nb + 80)) W K),(w.heap.size,opOf kind (.slice aa na ca) (.slice ab nb cb) W K)] [(lu,bu,.slice a1u qsu.length c1u,qsu),(lu,bu,.slice a2u rsu.length c2u,rsu),(ln,hn,.slice a1n m1n c1n,lst (zPA xs)),(ln,hn,.slice a2n m2n c2n,lst (zPA ys)),(lv,bv,.slice a1v qsv.length c1v,qsv),(lv,bv,.slice a2v rsv.length c2v,rsv),(lz,bz,.slice a1z qsz.length c1z,qsz),(lz,bz,.slice a2z rsz.length c2z,rsz),(lyy,byy,.slice a1yy qsyy.length c1yy,qsyy),(lyy,byy,.slice a2yy rsyy.length c2yy,rsyy),(lx,bx,.slice a1x qsx.length c1x,qsx),(lx,bx,.slice a2x rsx.length c2x,rsx),(lw,bw,.slice a1w qsw.length c1w,qsw),(lw,bw,.slice a2w rsw.length c2w,rsw)] wnew)
   case first =>
    have HSX : Hid (∀ wr,Below wu.heap.size wu wr → Calls Try.prog 11 #[(.agg #[.slice a1x qsx.length c1x,.slice a2x rsx.length c2x,.int .u64 rx,.int .i64 nx,.int .i64 ex]),(.agg #[.slice a1w qsw.length c1w,.slice a2w rsw.length c2w,.int .u64 rw,.int .i64 nw,.int .i64 ew])] wr (zYB wr)) := hid fun wr hb => znB CAL.out.1 HSx.out HSw.out ((Tu.out.po (lx,bx,.slice a1x qsx.length c1x,qsx) (by repeat (first | exact List.Mem.head _ | apply List.Mem.tail))).1.sl.now hb) ((Tu.out.po (lx,bx,.slice a2x rsx.length c2x,rsx) (by repeat (first | exact List.Mem.head _ | apply List.Mem.tail))).1.sl.now hb) ((Tu.out.po (lw,bw,.slice a1w qsw.length c1w,qsw) (by repeat (first | exact List.Mem.head _ | apply List.Mem.tail))).1.sl.now hb) ((Tu.out.po (lw,bw,.slice a2w rsw.length c2w,rsw) (by repeat (first | exact List.Mem.head _ | apply List.Mem.tail))).1.sl.now hb)
    have HSY : Hid (∀ wr,Below wu.heap.size wu wr → Calls Try.prog 11 #[(.agg #[.slice a1yy qsyy.length c1yy,.slice a2yy rsyy.length c2yy,.int .u64 ryy,.int .i64 nyy,.int .i64 eyy]),(.agg #[.slice a1w qsw.length c1w,.slice a2w rsw.length c2w,.int .u64 rw,.int .i64 nw,.int .i64 ew])] wr (zYB wr)) := hid fun wr hb => znB CAL.out.1 HSyy.out HSw.out ((Tu.out.po (lyy,byy,.slice a1yy qsyy.length c1yy,qsyy) (by repeat (first | exact List.Mem.head _ | apply List.Mem.tail))).1.sl.now hb) ((Tu.out.po (lyy,byy,.slice a2yy rsyy.length c2yy,rsyy) (by repeat (first | exact List.Mem.head _ | apply List.Mem.tail))).1.sl.now hb) ((Tu.out.po (lw,bw,.slice a1w qsw.length c1w,qsw) (by repeat (first | exact List.Mem.head _ | apply List.Mem.tail))).1.sl.now hb) ((Tu.out.po (lw,bw,.slice a2w rsw.length c2w,rsw) (by repeat (first | exact List.Mem.head _ | apply List.Mem.tail))).1.sl.now hb)
    have HSV : Hid (∀ wr,Below wu.heap.size wu wr → Calls Try.prog 11 #[(.agg #[.slice a1v qsv.length c1v,.slice a2v rsv.length c2v,.int .u64 rv,.int .i64 nv,.int .i64 ev]),(.agg #[.slice a1w qsw.length c1w,.slice a2w rsw.length c2w,.int .u64 rw,.int .i64 nw,.int .i64 ew])] wr (zYB wr)) := hid fun wr hb => znB CAL.out.1 HSv.out HSw.out ((Tu.out.po (lv,bv,.slice a1v qsv.length c1v,qsv) (by repeat (first | exact List.Mem.head _ | apply List.Mem.tail))).1.sl.now hb) ((Tu.out.po (lv,bv,.slice a2v rsv.length c2v,rsv) (by repeat (first | exact List.Mem.head _ | apply List.Mem.tail))).1.sl.now hb) ((Tu.out.po (lw,bw,.slice a1w qsw.length c1w,qsw) (by repeat (first | exact List.Mem.head _ | apply List.Mem.tail))).1.sl.now hb) ((Tu.out.po (lw,bw,.slice a2w rsw.length c2w,rsw) (by repeat (first | exact List.Mem.head _ | apply List.Mem.tail))).1.sl.now hb)
    have HWN : Hid (∀ wr,Below wu.heap.size wu wr → Calls Try.prog 9 #[.agg #[.int .i64 kind,.slice a1n m1n c1n,.slice a2n m2n c2n,.int .u64 W,.int .i64 K]] wr (zAE S3 wr)) := hid fun wr hb => CA4.out.2.1 wr _ _ ((Tu.out.po (ln,hn,.slice a1n m1n c1n,lst (zPA xs)) (by repeat (first | exact List.Mem.head _ | apply List.Mem.tail))).1.sl.now hb) ((Tu.out.po (ln,hn,.slice a2n m2n c2n,lst (zPA ys)) (by repeat (first | exact List.Mem.head _ | apply List.Mem.tail))).1.sl.now hb)
    have HSU : Hid (∀ wr,Below wu.heap.size wu wr → Sl wr.heap.size wr (.slice a1u qsu.length c1u) qsu ∧ Sl wr.heap.size wr (.slice a2u rsu.length c2u) rsu) := hid fun wr hb => ⟨((Tu.out.po (lu,bu,.slice a1u qsu.length c1u,qsu) (by repeat (first | exact List.Mem.head _ | apply List.Mem.tail))).1.sl.now hb),((Tu.out.po (lu,bu,.slice a2u rsu.length c2u,rsu) (by repeat (first | exact List.Mem.head _ | apply List.Mem.tail))).1.sl.now hb)⟩
    have HT : Hid (∀ w',Below wu.heap.size wu w' → St3 w ra rb (zPA xs) (zPA ys) [(bu,zKA (.slice a1u qsu.length c1u) (.slice a2u rsu.length c2u) ru nu eu),(bn,opOf kind (.slice a1n m1n c1n) (.slice a2n m2n c2n) W K),(bv,zKA (.slice a1v qsv.length c1v) (.slice a2v rsv.length c2v) rv nv ev),(bz,zKA (.slice a1z qsz.length c1z) (.slice a2z rsz.length c2z) rz nz ez),(byy,zKA (.slice a1yy qsyy.length c1yy) (.slice a2yy rsyy.length c2yy) ryy nyy eyy),(bx,zKA (.slice a1x qsx.length c1x) (.slice a2x rsx.length c2x) rx nx ex),(bo,opOf kind (.slice (some ⟨c6,0,none⟩) 2 2) (.slice (some ⟨c7,0,none⟩) 1 1) 5 2),(c7,.cells #[.int .u64 4] 26),(c6,.cells #[.int .u64 6,.int .u64 1] 26),(bw,zKA (.slice a1w qsw.length c1w) (.slice a2w rsw.length c2w) rw nw ew),(bi,opOf kind (.slice (some ⟨ra,0,none⟩) na (na + 80)) (.slice (some ⟨rb,0,none⟩) nb (nb + 80)) W K),(w.heap.size,opOf kind (.slice aa na ca) (.slice ab nb cb) W K)] [(lu,bu,.slice a1u qsu.length c1u,qsu),(lu,bu,.slice a2u rsu.length c2u,rsu),(ln,hn,.slice a1n m1n c1n,lst (zPA xs)),(ln,hn,.slice a2n m2n c2n,lst (zPA ys)),(lv,bv,.slice a1v qsv.length c1v,qsv),(lv,bv,.slice a2v rsv.length c2v,rsv),(lz,bz,.slice a1z qsz.length c1z,qsz),(lz,bz,.slice a2z rsz.length c2z,rsz),(lyy,byy,.slice a1yy qsyy.length c1yy,qsyy),(lyy,byy,.slice a2yy rsyy.length c2yy,rsyy),(lx,bx,.slice a1x qsx.length c1x,qsx),(lx,bx,.slice a2x rsx.length c2x,rsx),(lw,bw,.slice a1w qsw.length c1w,qsw),(lw,bw,.slice a2w rsw.length c2w,rsw)] w') := hid fun w' hb => Tu.out.step hb
    have HKB : Hid (∀ w',Below wu.heap.size wu w' → (w'.cell? ⟨bu,0,none⟩ = some (.slice a1u qsu.length c1u) ∧ w'.cell? ⟨bu,1,none⟩ = some (.slice a2u rsu.length c2u) ∧ w'.cell? ⟨bu,2,none⟩ = some (.int .u64 ru) ∧ w'.cell? ⟨bu,3,none⟩ = some (.int .i64 nu) ∧ w'.cell? ⟨bu,4,none⟩ = some (.int .i64 eu) ∧ w'.cell? ⟨bx,0,none⟩ = some (.slice a1x qsx.length c1x) ∧ w'.cell? ⟨bx,1,none⟩ = some (.slice a2x rsx.length c2x) ∧ w'.cell? ⟨bx,2,none⟩ = some (.int .u64 rx) ∧ w'.cell? ⟨bx,3,none⟩ = some (.int .i64 nx) ∧ w'.cell? ⟨bx,4,none⟩ = some (.int .i64 ex) ∧ w'.cell? ⟨bw,0,none⟩ = some (.slice a1w qsw.length c1w) ∧ w'.cell? ⟨bw,1,none⟩ = some (.slice a2w rsw.length c2w) ∧ w'.cell? ⟨bw,2,none⟩ = some (.int .u64 rw) ∧ w'.cell? ⟨bw,3,none⟩ = some (.int .i64 nw) ∧ w'.cell? ⟨bw,4,none⟩ = some (.int .i64 ew) ∧ w'.cell? ⟨byy,0,none⟩ = some (.slice a1yy qsyy.length c1yy) ∧ w'.cell? ⟨byy,1,none⟩ = some (.slice a2yy rsyy.length c2yy) ∧ w'.cell? ⟨byy,2,none⟩ = some (.int .u64 ryy) ∧ w'.cell? ⟨byy,3,none⟩ = some (.int .i64 nyy) ∧ w'.cell? ⟨byy,4,none⟩ = some (.int .i64 eyy) ∧ w'.cell? ⟨bv,0,none⟩ = some (.slice a1v qsv.length c1v) ∧ w'.cell? ⟨bv,1,none⟩ = some (.slice a2v rsv.length c2v) ∧ w'.cell? ⟨bv,2,none⟩ = some (.int .u64 rv) ∧ w'.cell? ⟨bv,3,none⟩ = some (.int .i64 nv) ∧ w'.cell? ⟨bv,4,none⟩ = some (.int .i64 ev) ∧ w'.cell? ⟨bn,0,none⟩ = some (.int .i64 kind) ∧ w'.cell? ⟨bn,1,none⟩ = some (.slice a1n m1n c1n) ∧ w'.cell? ⟨bn,2,none⟩ = some (.slice a2n m2n c2n) ∧ w'.cell? ⟨bn,3,none⟩ = some (.int .u64 W) ∧ w'.cell? ⟨bn,4,none⟩ = some (.int .i64 K))) := hid fun w' hb => by
     have q := Tu.out.step hb;obtain ⟨q0,q1,q2,q3,q4⟩ := zEA (q.bx (bu,_) (by repeat (first | exact List.Mem.head _ | apply List.Mem.tail)));obtain ⟨q5,q6,q7,q8,q9⟩ := zEA (q.bx (bx,_) (by repeat (first | exact List.Mem.head _ | apply List.Mem.tail)));obtain ⟨q10,q11,q12,q13,q14⟩ := zEA (q.bx (bw,_) (by repeat (first | exact List.Mem.head _ | apply List.Mem.tail)));obtain ⟨q15,q16,q17,q18,q19⟩ := zEA (q.bx (byy,_) (by repeat (first | exact List.Mem.head _ | apply List.Mem.tail)));obtain ⟨q20,q21,q22,q23,q24⟩ := zEA (q.bx (bv,_) (by repeat (first | exact List.Mem.head _ | apply List.Mem.tail)));obtain ⟨q25,q26,q27,q28,q29⟩ := zEA (q.bx (bn,_) (by repeat (first | exact List.Mem.head _ | apply List.Mem.tail)));exact ⟨q0,q1,q2,q3,q4,q5,q6,q7,q8,q9,q10,q11,q12,q13,q14,q15,q16,q17,q18,q19,q20,q21,q22,q23,q24,q25,q26,q27,q28,q29⟩
    obtain ⟨q0,q1,q2,q3,q4,q5,q6,q7,q8,q9,q10,q11,q12,q13,q14,q15,q16,q17,q18,q19,q20,q21,q22,q23,q24,q25,q26,q27,q28,q29⟩ := HKB.out wu (Below.refl _ _);clear Tu;go_region_held3 (fun w' => w'.cell? ⟨bu,0,none⟩ = some (.slice a1u qsu.length c1u) ∧ w'.cell? ⟨bu,1,none⟩ = some (.slice a2u rsu.length c2u) ∧ w'.cell? ⟨bu,2,none⟩ = some (.int .u64 ru) ∧ w'.cell? ⟨bu,3,none⟩ = some (.int .i64 nu) ∧ w'.cell? ⟨bu,4,none⟩ = some (.int .i64 eu) ∧ w'.cell? ⟨bx,0,none⟩ = some (.slice a1x qsx.length c1x) ∧ w'.cell? ⟨bx,1,none⟩ = some (.slice a2x rsx.length c2x) ∧ w'.cell? ⟨bx,2,none⟩ = some (.int .u64 rx) ∧ w'.cell? ⟨bx,3,none⟩ = some (.int .i64 nx) ∧ w'.cell? ⟨bx,4,none⟩ = some (.int .i64 ex) ∧ w'.cell? ⟨bw,0,none⟩ = some (.slice a1w qsw.length c1w) ∧ w'.cell? ⟨bw,1,none⟩ = some (.slice a2w rsw.length c2w) ∧ w'.cell? ⟨bw,2,none⟩ = some (.int .u64 rw) ∧ w'.cell? ⟨bw,3,none⟩ = some (.int .i64 nw) ∧ w'.cell? ⟨bw,4,none⟩ = some (.int .i64 ew) ∧ w'.cell? ⟨byy,0,none⟩ = some (.slice a1yy qsyy.length c1yy) ∧ w'.cell? ⟨byy,1,none⟩ = some (.slice a2yy rsyy.length c2yy) ∧ w'.cell? ⟨byy,2,none⟩ = some (.int .u64 ryy) ∧ w'.cell? ⟨byy,3,none⟩ = some (.int .i64 nyy) ∧ w'.cell? ⟨byy,4,none⟩ = some (.int .i64 eyy) ∧ w'.cell? ⟨bv,0,none⟩ = some (.slice a1v qsv.length c1v) ∧ w'.cell? ⟨bv,1,none⟩ = some (.slice a2v rsv.length c2v) ∧ w'.cell? ⟨bv,2,none⟩ = some (.int .u64 rv) ∧ w'.cell? ⟨bv,3,none⟩ = some (.int .i64 nv) ∧ w'.cell? ⟨bv,4,none⟩ = some (.int .i64 ev) ∧ w'.cell? ⟨bn,0,none⟩ = some (.int .i64 kind) ∧ w'.cell? ⟨bn,1,none⟩ = some (.slice a1n m1n c1n) ∧ w'.cell? ⟨bn,2,none⟩ = some (.slice a2n m2n c2n) ∧ w'.cell? ⟨bn,3,none⟩ = some (.int .u64 W) ∧ w'.cell? ⟨bn,4,none⟩ = some (.int .i64 K))
     (first
      | ((try dsimp only);refine ⟨?_,?_,?_,?_,?_,?_,?_,?_,?_,?_,?_,?_,?_,?_,?_,?_,?_,?_,?_,?_,?_,?_,?_,?_,?_,?_,?_,?_,?_,?_⟩ <;> with_reducible assumption)
      | (refine HKB.out _ ?_;(repeat (first | with_reducible exact HP5.out | with_reducible exact HP4.out | with_reducible exact HP3.out | with_reducible exact HP2.out | with_reducible exact HP1.out | with_reducible exact Below.refl _ _ | with_reducible apply Below.drew))))
     (first
      | (go_at_call 9;refine (HWN.out _ ?_).mono ?_;(repeat (first  | with_reducible exact Below.refl _ _ | with_reducible apply Below.drew));rintro e uaa ⟨qs,rs,r1,n1,e1,hs,vq,vr,rfl,oq,or_,tw,kk⟩;have HP1 := hid (zAA (w0 := wu) (by (repeat (first  | with_reducible exact Below.refl _ _ | with_reducible apply Below.drew))) kk);have OQ := hid oq;have OR := hid or_;have HSN := hid hs;obtain ⟨aq,cq,rfl⟩ := oq.form;obtain ⟨ar,cr,rfl⟩ := or_.form;clear oq or_ tw hs;obtain ⟨q0,q1,q2,q3,q4,q5,q6,q7,q8,q9,q10,q11,q12,q13,q14,q15,q16,q17,q18,q19,q20,q21,q22,q23,q24,q25,q26,q27,q28,q29⟩ := HKB.out _ HP1.out;clear kk)
      | (go_at_call_of 11 (Value.agg #[Value.slice a1u qsu.length c1u,Value.slice a2u rsu.length c2u,Value.int IntKind.u64 ru,Value.int IntKind.i64 nu,Value.int IntKind.i64 eu]);refine (znB CA3.out.1 HSu.out HSN.out (HSU.out _ ?_).1 (HSU.out _ ?_).2 (OQ.out.sl.now ?_) (OR.out.sl.now ?_)).mono ?_;(repeat (first | with_reducible exact HP1.out | with_reducible exact Below.refl _ _ | with_reducible apply Below.drew));rintro e ubb ⟨rfl,kk⟩;have HP2 := hid (zAA (w0 := wu) (by (repeat (first | with_reducible exact HP1.out | with_reducible exact Below.refl _ _ | with_reducible apply Below.drew))) kk);obtain ⟨q0,q1,q2,q3,q4,q5,q6,q7,q8,q9,q10,q11,q12,q13,q14,q15,q16,q17,q18,q19,q20,q21,q22,q23,q24,q25,q26,q27,q28,q29⟩ := HKB.out _ HP2.out;clear kk)
      | (go_at_call_of 11 (Value.agg #[Value.slice a1x qsx.length c1x,Value.slice a2x rsx.length c2x,Value.int IntKind.u64 rx,Value.int IntKind.i64 nx,Value.int IntKind.i64 ex]);refine (HSX.out _ ?_).mono ?_;(repeat (first | with_reducible exact HP2.out | with_reducible exact HP1.out | with_reducible exact Below.refl _ _ | with_reducible apply Below.drew));rintro e ucc ⟨rfl,kk⟩;have HP3 := hid (zAA (w0 := wu) (by (repeat (first | with_reducible exact HP2.out | with_reducible exact HP1.out | with_reducible exact Below.refl _ _ | with_reducible apply Below.drew))) kk);obtain ⟨q0,q1,q2,q3,q4,q5,q6,q7,q8,q9,q10,q11,q12,q13,q14,q15,q16,q17,q18,q19,q20,q21,q22,q23,q24,q25,q26,q27,q28,q29⟩ := HKB.out _ HP3.out;clear kk)
      | (go_at_call_of 11 (Value.agg #[Value.slice a1yy qsyy.length c1yy,Value.slice a2yy rsyy.length c2yy,Value.int IntKind.u64 ryy,Value.int IntKind.i64 nyy,Value.int IntKind.i64 eyy]);refine (HSY.out _ ?_).mono ?_;(repeat (first | with_reducible exact HP3.out | with_reducible exact HP2.out | with_reducible exact HP1.out | with_reducible exact Below.refl _ _ | with_reducible apply Below.drew));rintro e udd ⟨rfl,kk⟩;have HP4 := hid (zAA (w0 := wu) (by (repeat (first | with_reducible exact HP3.out | with_reducible exact HP2.out | with_reducible exact HP1.out | with_reducible exact Below.refl _ _ | with_reducible apply Below.drew))) kk);obtain ⟨q0,q1,q2,q3,q4,q5,q6,q7,q8,q9,q10,q11,q12,q13,q14,q15,q16,q17,q18,q19,q20,q21,q22,q23,q24,q25,q26,q27,q28,q29⟩ := HKB.out _ HP4.out;clear kk)
      | (go_at_call_of 11 (Value.agg #[Value.slice a1v qsv.length c1v,Value.slice a2v rsv.length c2v,Value.int IntKind.u64 rv,Value.int IntKind.i64 nv,Value.int IntKind.i64 ev]);refine (HSV.out _ ?_).mono ?_;(repeat (first | with_reducible exact HP4.out | with_reducible exact HP3.out | with_reducible exact HP2.out | with_reducible exact HP1.out | with_reducible exact Below.refl _ _ | with_reducible apply Below.drew));rintro e uee ⟨rfl,kk⟩;have HP5 := hid (zAA (w0 := wu) (by (repeat (first | with_reducible exact HP4.out | with_reducible exact HP3.out | with_reducible exact HP2.out | with_reducible exact HP1.out | with_reducible exact Below.refl _ _ | with_reducible apply Below.drew))) kk);obtain ⟨q0,q1,q2,q3,q4,q5,q6,q7,q8,q9,q10,q11,q12,q13,q14,q15,q16,q17,q18,q19,q20,q21,q22,q23,q24,q25,q26,q27,q28,q29⟩ := HKB.out _ HP5.out;clear kk))
    all_goals (go_wp2_with fail)
    all_goals go_meet
    all_goals exact ⟨rfl,HT.out _ (by (repeat (first | with_reducible exact HP5.out | with_reducible exact HP4.out | with_reducible exact HP3.out | with_reducible exact HP2.out | with_reducible exact HP1.out | with_reducible exact Below.refl _ _ | with_reducible apply Below.drew)))⟩
   case rest =>
    obtain ⟨rfl,ht⟩ := hcut;clear Tu
    rename World => ws
    have Ts := hid ht;clear ht;have QA := Ts.out.qa;have QB := Ts.out.qb;have RBX : rb < lx := Ts.out.np (lx,bx,_,_) (by repeat (first | exact List.Mem.head _ | apply List.Mem.tail));have chx := CHx.out;have lox := LOx.out;have chyy := CHyy.out;have loyy := LOyy.out;have chz := CHz.out;have loz := LOz.out;have chv := CHv.out;have lov := LOv.out;have chu := CHu.out;have lou := LOu.out;have OBx1 : ∀ g,Value.ownBlock (.slice a1x qsx.length c1x) = some g → lx ≤ g ∧ g < bx := (Ts.out.po (lx,bx,.slice a1x qsx.length c1x,qsx) (by repeat (first | exact List.Mem.head _ | apply List.Mem.tail))).2;have OBx2 : ∀ g,Value.ownBlock (.slice a2x rsx.length c2x) = some g → lx ≤ g ∧ g < bx := (Ts.out.po (lx,bx,.slice a2x rsx.length c2x,rsx) (by repeat (first | exact List.Mem.head _ | apply List.Mem.tail))).2;have OByy1 : ∀ g,Value.ownBlock (.slice a1yy qsyy.length c1yy) = some g → lyy ≤ g ∧ g < byy := (Ts.out.po (lyy,byy,.slice a1yy qsyy.length c1yy,qsyy) (by repeat (first | exact List.Mem.head _ | apply List.Mem.tail))).2;have OByy2 : ∀ g,Value.ownBlock (.slice a2yy rsyy.length c2yy) = some g → lyy ≤ g ∧ g < byy := (Ts.out.po (lyy,byy,.slice a2yy rsyy.length c2yy,rsyy) (by repeat (first | exact List.Mem.head _ | apply List.Mem.tail))).2;have OBz1 : ∀ g,Value.ownBlock (.slice a1z qsz.length c1z) = some g → lz ≤ g ∧ g < bz := (Ts.out.po (lz,bz,.slice a1z qsz.length c1z,qsz) (by repeat (first | exact List.Mem.head _ | apply List.Mem.tail))).2;have OBz2 : ∀ g,Value.ownBlock (.slice a2z rsz.length c2z) = some g → lz ≤ g ∧ g < bz := (Ts.out.po (lz,bz,.slice a2z rsz.length c2z,rsz) (by repeat (first | exact List.Mem.head _ | apply List.Mem.tail))).2;have OBv1 : ∀ g,Value.ownBlock (.slice a1v qsv.length c1v) = some g → lv ≤ g ∧ g < bv := (Ts.out.po (lv,bv,.slice a1v qsv.length c1v,qsv) (by repeat (first | exact List.Mem.head _ | apply List.Mem.tail))).2;have OBv2 : ∀ g,Value.ownBlock (.slice a2v rsv.length c2v) = some g → lv ≤ g ∧ g < bv := (Ts.out.po (lv,bv,.slice a2v rsv.length c2v,rsv) (by repeat (first | exact List.Mem.head _ | apply List.Mem.tail))).2;have OBu1 : ∀ g,Value.ownBlock (.slice a1u qsu.length c1u) = some g → lu ≤ g ∧ g < bu := (Ts.out.po (lu,bu,.slice a1u qsu.length c1u,qsu) (by repeat (first | exact List.Mem.head _ | apply List.Mem.tail))).2;have OBu2 : ∀ g,Value.ownBlock (.slice a2u rsu.length c2u) = some g → lu ≤ g ∧ g < bu := (Ts.out.po (lu,bu,.slice a2u rsu.length c2u,rsu) (by repeat (first | exact List.Mem.head _ | apply List.Mem.tail))).2;have OBa : ∀ g,Value.ownBlock (.slice (some ⟨ra,0,none⟩) (na + 80) (na + 80)) = some g → ra ≤ g ∧ g < ra + 1 := fun g h => by
     have e : ra = g := by simpa [Value.ownBlock] using h
     omega
    have OBb : ∀ g,Value.ownBlock (.slice (some ⟨rb,0,none⟩) (nb + 80) (nb + 80)) = some g → rb ≤ g ∧ g < rb + 1 := fun g h => by
     have e : rb = g := by simpa [Value.ownBlock] using h
     omega
    have TW : Hid (Tw w ws.heap.size [.slice a1x qsx.length c1x,.slice a2x rsx.length c2x,.slice a1yy qsyy.length c1yy,.slice a2yy rsyy.length c2yy,.slice a1z qsz.length c1z,.slice a2z rsz.length c2z,.slice a1v qsv.length c1v,.slice a2v rsv.length c2v,.slice a1u qsu.length c1u,.slice a2u rsu.length c2u,.slice (some ⟨ra,0,none⟩) (na + 80) (na + 80),.slice (some ⟨rb,0,none⟩) (nb + 80) (nb + 80)] ws) := by as_aux_lemma =>
     refine ⟨Ts.out.be,fun i hi => ?_,?_,fun u hu g hg => ?_,Ts.out.be.size⟩
     ·match i,hi with
      | 0,_ => exact ⟨_,(LN1.out _ _ _ _ _ HSx.out).1,(Ts.out.po (lx,bx,.slice a1x qsx.length c1x,qsx) (by repeat (first | exact List.Mem.head _ | apply List.Mem.tail))).1.ow⟩
      | 1,_ => exact ⟨_,(LN1.out _ _ _ _ _ HSx.out).2,(Ts.out.po (lx,bx,.slice a2x rsx.length c2x,rsx) (by repeat (first | exact List.Mem.head _ | apply List.Mem.tail))).1.ow⟩
      | 2,_ => exact ⟨_,(LN1.out _ _ _ _ _ HSyy.out).1,(Ts.out.po (lyy,byy,.slice a1yy qsyy.length c1yy,qsyy) (by repeat (first | exact List.Mem.head _ | apply List.Mem.tail))).1.ow⟩
      | 3,_ => exact ⟨_,(LN1.out _ _ _ _ _ HSyy.out).2,(Ts.out.po (lyy,byy,.slice a2yy rsyy.length c2yy,rsyy) (by repeat (first | exact List.Mem.head _ | apply List.Mem.tail))).1.ow⟩
      | 4,_ => exact ⟨_,(LN2.out _ _ _ _ _ HSz.out).1,(Ts.out.po (lz,bz,.slice a1z qsz.length c1z,qsz) (by repeat (first | exact List.Mem.head _ | apply List.Mem.tail))).1.ow⟩
      | 5,_ => exact ⟨_,(LN2.out _ _ _ _ _ HSz.out).2,(Ts.out.po (lz,bz,.slice a2z rsz.length c2z,rsz) (by repeat (first | exact List.Mem.head _ | apply List.Mem.tail))).1.ow⟩
      | 6,_ => exact ⟨_,(LN1.out _ _ _ _ _ HSv.out).1,(Ts.out.po (lv,bv,.slice a1v qsv.length c1v,qsv) (by repeat (first | exact List.Mem.head _ | apply List.Mem.tail))).1.ow⟩
      | 7,_ => exact ⟨_,(LN1.out _ _ _ _ _ HSv.out).2,(Ts.out.po (lv,bv,.slice a2v rsv.length c2v,rsv) (by repeat (first | exact List.Mem.head _ | apply List.Mem.tail))).1.ow⟩
      | 8,_ => exact ⟨_,(LN3.out _ _ _ _ _ HSu.out).1,(Ts.out.po (lu,bu,.slice a1u qsu.length c1u,qsu) (by repeat (first | exact List.Mem.head _ | apply List.Mem.tail))).1.ow⟩
      | 9,_ => exact ⟨_,(LN3.out _ _ _ _ _ HSu.out).2,(Ts.out.po (lu,bu,.slice a2u rsu.length c2u,rsu) (by repeat (first | exact List.Mem.head _ | apply List.Mem.tail))).1.ow⟩
      | 10,_ => exact Ts.out.ma.owAll (by rw [zUA];exact HNA.out) (by omega)
      | 11,_ => exact Ts.out.mb.owAll (by rw [zUA];exact HNB.out) (by omega)
     ·refine List.Pairwise.cons ?_ (List.Pairwise.cons ?_ (List.Pairwise.cons ?_ (List.Pairwise.cons ?_ (List.Pairwise.cons ?_ (List.Pairwise.cons ?_ (List.Pairwise.cons ?_ (List.Pairwise.cons ?_ (List.Pairwise.cons ?_ (List.Pairwise.cons ?_ (List.Pairwise.cons ?_ (List.Pairwise.cons ?_ (List.Pairwise.nil))))))))))))
      ·intro c hc g hg hg2
       simp only [List.mem_cons,List.not_mem_nil,or_false] at hc;rcases hc with rfl | rfl | rfl | rfl | rfl | rfl | rfl | rfl | rfl | rfl | rfl
       ·exact TWx.out g hg hg2
       ·have h1 := OBx1 g hg
        have h2 := OByy1 g hg2;omega
       ·have h1 := OBx1 g hg
        have h2 := OByy2 g hg2;omega
       ·have h1 := OBx1 g hg
        have h2 := OBz1 g hg2;omega
       ·have h1 := OBx1 g hg
        have h2 := OBz2 g hg2;omega
       ·have h1 := OBx1 g hg
        have h2 := OBv1 g hg2;omega
       ·have h1 := OBx1 g hg
        have h2 := OBv2 g hg2;omega
       ·have h1 := OBx1 g hg
        have h2 := OBu1 g hg2;omega
       ·have h1 := OBx1 g hg
        have h2 := OBu2 g hg2;omega
       ·have h1 := OBx1 g hg
        have h2 := OBa g hg2;omega
       ·have h1 := OBx1 g hg
        have h2 := OBb g hg2;omega
      ·intro c hc g hg hg2
       simp only [List.mem_cons,List.not_mem_nil,or_false] at hc;rcases hc with rfl | rfl | rfl | rfl | rfl | rfl | rfl | rfl | rfl | rfl
       ·have h1 := OBx2 g hg
        have h2 := OByy1 g hg2;omega
       ·have h1 := OBx2 g hg
        have h2 := OByy2 g hg2;omega
       ·have h1 := OBx2 g hg
        have h2 := OBz1 g hg2;omega
       ·have h1 := OBx2 g hg
        have h2 := OBz2 g hg2;omega
       ·have h1 := OBx2 g hg
        have h2 := OBv1 g hg2;omega
       ·have h1 := OBx2 g hg
        have h2 := OBv2 g hg2;omega
       ·have h1 := OBx2 g hg
        have h2 := OBu1 g hg2;omega
       ·have h1 := OBx2 g hg
        have h2 := OBu2 g hg2;omega
       ·have h1 := OBx2 g hg
        have h2 := OBa g hg2;omega
       ·have h1 := OBx2 g hg
        have h2 := OBb g hg2;omega
      ·intro c hc g hg hg2
       simp only [List.mem_cons,List.not_mem_nil,or_false] at hc;rcases hc with rfl | rfl | rfl | rfl | rfl | rfl | rfl | rfl | rfl
       ·exact TWyy.out g hg hg2
       ·have h1 := OByy1 g hg
        have h2 := OBz1 g hg2;omega
       ·have h1 := OByy1 g hg
        have h2 := OBz2 g hg2;omega
       ·have h1 := OByy1 g hg
        have h2 := OBv1 g hg2;omega
       ·have h1 := OByy1 g hg
        have h2 := OBv2 g hg2;omega
       ·have h1 := OByy1 g hg
        have h2 := OBu1 g hg2;omega
       ·have h1 := OByy1 g hg
        have h2 := OBu2 g hg2;omega
       ·have h1 := OByy1 g hg
        have h2 := OBa g hg2;omega
       ·have h1 := OByy1 g hg
        have h2 := OBb g hg2;omega
      ·intro c hc g hg hg2
       simp only [List.mem_cons,List.not_mem_nil,or_false] at hc;rcases hc with rfl | rfl | rfl | rfl | rfl | rfl | rfl | rfl
       ·have h1 := OByy2 g hg
        have h2 := OBz1 g hg2;omega
       ·have h1 := OByy2 g hg
        have h2 := OBz2 g hg2;omega
       ·have h1 := OByy2 g hg
        have h2 := OBv1 g hg2;omega
       ·have h1 := OByy2 g hg
        have h2 := OBv2 g hg2;omega
       ·have h1 := OByy2 g hg
        have h2 := OBu1 g hg2;omega
       ·have h1 := OByy2 g hg
        have h2 := OBu2 g hg2;omega
       ·have h1 := OByy2 g hg
        have h2 := OBa g hg2;omega
       ·have h1 := OByy2 g hg
        have h2 := OBb g hg2;omega
      ·intro c hc g hg hg2
       simp only [List.mem_cons,List.not_mem_nil,or_false] at hc;rcases hc with rfl | rfl | rfl | rfl | rfl | rfl | rfl
       ·exact TWz.out g hg hg2
       ·have h1 := OBz1 g hg
        have h2 := OBv1 g hg2;omega
       ·have h1 := OBz1 g hg
        have h2 := OBv2 g hg2;omega
       ·have h1 := OBz1 g hg
        have h2 := OBu1 g hg2;omega
       ·have h1 := OBz1 g hg
        have h2 := OBu2 g hg2;omega
       ·have h1 := OBz1 g hg
        have h2 := OBa g hg2;omega
       ·have h1 := OBz1 g hg
        have h2 := OBb g hg2;omega
      ·intro c hc g hg hg2
       simp only [List.mem_cons,List.not_mem_nil,or_false] at hc;rcases hc with rfl | rfl | rfl | rfl | rfl | rfl
       ·have h1 := OBz2 g hg
        have h2 := OBv1 g hg2;omega
       ·have h1 := OBz2 g hg
        have h2 := OBv2 g hg2;omega
       ·have h1 := OBz2 g hg
        have h2 := OBu1 g hg2;omega
       ·have h1 := OBz2 g hg
        have h2 := OBu2 g hg2;omega
       ·have h1 := OBz2 g hg
        have h2 := OBa g hg2;omega
       ·have h1 := OBz2 g hg
        have h2 := OBb g hg2;omega
      ·intro c hc g hg hg2
       simp only [List.mem_cons,List.not_mem_nil,or_false] at hc;rcases hc with rfl | rfl | rfl | rfl | rfl
       ·exact TWv.out g hg hg2
       ·have h1 := OBv1 g hg
        have h2 := OBu1 g hg2;omega
       ·have h1 := OBv1 g hg
        have h2 := OBu2 g hg2;omega
       ·have h1 := OBv1 g hg
        have h2 := OBa g hg2;omega
       ·have h1 := OBv1 g hg
        have h2 := OBb g hg2;omega
      ·intro c hc g hg hg2
       simp only [List.mem_cons,List.not_mem_nil,or_false] at hc;rcases hc with rfl | rfl | rfl | rfl
       ·have h1 := OBv2 g hg
        have h2 := OBu1 g hg2;omega
       ·have h1 := OBv2 g hg
        have h2 := OBu2 g hg2;omega
       ·have h1 := OBv2 g hg
        have h2 := OBa g hg2;omega
       ·have h1 := OBv2 g hg
        have h2 := OBb g hg2;omega
      ·intro c hc g hg hg2
       simp only [List.mem_cons,List.not_mem_nil,or_false] at hc;rcases hc with rfl | rfl | rfl
       ·exact TWu.out g hg hg2
       ·have h1 := OBu1 g hg
        have h2 := OBa g hg2;omega
       ·have h1 := OBu1 g hg
        have h2 := OBb g hg2;omega
      ·intro c hc g hg hg2
       simp only [List.mem_cons,List.not_mem_nil,or_false] at hc;rcases hc with rfl | rfl
       ·have h1 := OBu2 g hg
        have h2 := OBa g hg2;omega
       ·have h1 := OBu2 g hg
        have h2 := OBb g hg2;omega
      ·intro c hc g hg hg2
       simp only [List.mem_cons,List.not_mem_nil,or_false] at hc;rcases hc with rfl
       ·have h1 := OBa g hg
        have h2 := OBb g hg2;omega
      ·intro c hc g hg hg2
       cases hc
     ·have hbu := Ts.out.blt (p := (bu,_)) (by repeat (first | exact List.Mem.head _ | apply List.Mem.tail))
      change bu < _ at hbu
      simp only [List.mem_cons,List.not_mem_nil,or_false] at hu;rcases hu with rfl | rfl | rfl | rfl | rfl | rfl | rfl | rfl | rfl | rfl | rfl | rfl
      ·have h1 := OBx1 g hg
       omega
      ·have h1 := OBx2 g hg
       omega
      ·have h1 := OByy1 g hg
       omega
      ·have h1 := OByy2 g hg
       omega
      ·have h1 := OBz1 g hg
       omega
      ·have h1 := OBz2 g hg
       omega
      ·have h1 := OBv1 g hg
       omega
      ·have h1 := OBv2 g hg
       omega
      ·have h1 := OBu1 g hg
       omega
      ·have h1 := OBu2 g hg
       omega
      ·have h1 := OBa g hg
       omega
      ·have h1 := OBb g hg
       omega
    clear OBx1 OBx2 OByy1 OByy2 OBz1 OBz2 OBv1 OBv2 OBu1 OBu2 OBa OBb QA QB RBX chx lox chyy loyy chz loz chv lov chu lou;obtain ⟨D,hD⟩ : ∃ D,ws.heap.size = D := ⟨_,rfl⟩
    rw [hD] at TW;go_upto_region 20 with fail
    go_cut [16] from 19 (fun s16 wnew => s16 = .pointer (some ⟨D,0,none⟩) ∧ St3 w ra rb (zPA xs) (zPA ys) ((D,.cells #[.slice none 0 0,.slice none 0 0,.slice none 0 0] 45 (0,0)) :: [(bu,zKA (.slice a1u qsu.length c1u) (.slice a2u rsu.length c2u) ru nu eu),(bn,opOf kind (.slice a1n m1n c1n) (.slice a2n m2n c2n) W K),(bv,zKA (.slice a1v qsv.length c1v) (.slice a2v rsv.length c2v) rv nv ev),(bz,zKA (.slice a1z qsz.length c1z) (.slice a2z rsz.length c2z) rz nz ez),(byy,zKA (.slice a1yy qsyy.length c1yy) (.slice a2yy rsyy.length c2yy) ryy nyy eyy),(bx,zKA (.slice a1x qsx.length c1x) (.slice a2x rsx.length c2x) rx nx ex),(bo,opOf kind (.slice (some ⟨c6,0,none⟩) 2 2) (.slice (some ⟨c7,0,none⟩) 1 1) 5 2),(c7,.cells #[.int .u64 4] 26),(c6,.cells #[.int .u64 6,.int .u64 1] 26),(bw,zKA (.slice a1w qsw.length c1w) (.slice a2w rsw.length c2w) rw nw ew),(bi,opOf kind (.slice (some ⟨ra,0,none⟩) na (na + 80)) (.slice (some ⟨rb,0,none⟩) nb (nb + 80)) W K),(w.heap.size,opOf kind (.slice aa na ca) (.slice ab nb cb) W K)]) [(lu,bu,.slice a1u qsu.length c1u,qsu),(lu,bu,.slice a2u rsu.length c2u,rsu),(ln,hn,.slice a1n m1n c1n,lst (zPA xs)),(ln,hn,.slice a2n m2n c2n,lst (zPA ys)),(lv,bv,.slice a1v qsv.length c1v,qsv),(lv,bv,.slice a2v rsv.length c2v,rsv),(lz,bz,.slice a1z qsz.length c1z,qsz),(lz,bz,.slice a2z rsz.length c2z,rsz),(lyy,byy,.slice a1yy qsyy.length c1yy,qsyy),(lyy,byy,.slice a2yy rsyy.length c2yy,rsyy),(lx,bx,.slice a1x qsx.length c1x,qsx),(lx,bx,.slice a2x rsx.length c2x,rsx),(lw,bw,.slice a1w qsw.length c1w,qsw),(lw,bw,.slice a2w rsw.length c2w,rsw)] wnew ∧ Tw w D [.slice a1x qsx.length c1x,.slice a2x rsx.length c2x,.slice a1yy qsyy.length c1yy,.slice a2yy rsyy.length c2yy,.slice a1z qsz.length c1z,.slice a2z rsz.length c2z,.slice a1v qsv.length c1v,.slice a2v rsv.length c2v,.slice a1u qsu.length c1u,.slice a2u rsu.length c2u,.slice (some ⟨ra,0,none⟩) (na + 80) (na + 80),.slice (some ⟨rb,0,none⟩) (nb + 80) (nb + 80)] wnew ∧ wnew.heap.size = D + 1)
    case first =>
     have F1 := hid (Ts.out.box (.cells #[.slice none 0 0,.slice none 0 0,.slice none 0 0] 45 (0,0)));have F2 := hid (TW.out.step ((Below.refl _ _).alloc (Nat.le_refl _) (.cells #[.slice none 0 0,.slice none 0 0,.slice none 0 0] 45 (0,0))) (Nat.le_of_eq hD.symm));rw [hD] at F1;clear Ts;go_wp2_with fail
     try simp only [hD]
     go_meet;exact ⟨rfl,F1.out,F2.out,by simp [hD]⟩
    case rest =>
     obtain ⟨rfl,ht,htw,hsz⟩ := hcut;clear Ts TW hD
     rename World => wb
     have Tb := hid ht;have TW := hid htw;have HZ := hid hsz;clear ht htw hsz
     rename_i hK
     refine hK _ _ ?_;exact keeps_c Tb TW HZ
end Go.Proofs.Ytppddlbkdoebmaa
