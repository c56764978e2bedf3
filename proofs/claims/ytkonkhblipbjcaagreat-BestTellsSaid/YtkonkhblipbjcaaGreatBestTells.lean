/- The first routes are the document's: BestTells returns true. No condition. -/
import Derived.Test.YtkonkhblipbjcaaGreatRows
import Derived.Test.YtkonkhblipbjcaaGreatGQ31
import Derived.Test.YtkonkhblipbjcaaGreatGQ30
import Derived.BigQuiet
import Derived.Deep.QuietTactic
import Derived.Test.YtkonkhblipbjcaaGreatGQ32
import Derived.Test.YtkonkhblipbjcaaGreatGQ33
namespace Go.Proofs.YtkonkhblipbjcaaGreat
open Go.ChangeShapes Go.WideShapes Go.ChangeAt Go.RowKit Go.Sort Hp
set_option linter.unusedSimpArgs false
set_option linter.unusedVariables false
set_option maxHeartbeats 8000000 in
set_option maxRecDepth 100000 in
theorem bestTells_w (A:Option Addr) (n c:Nat) (l:List Ed) (f q now size by_ k:Int) (w:World) (hd:l.length = n)  (hl:Sl w w.heap.size 8 A n c (flatEd l))  :
  Calls Tryz.prog 3 #[.slice A n c,.int .i64 f,.int .i64 q,.int .i64 now,.int .i64 size,.int .i64 by_,.int .i64 k] w fun e w' => e = .returned (.bool true) ∧ Below w.heap.size w w':=by
 have HD:=Lib.hid hd
 have HL:=Lib.hid (fun w' (hb:Below w.heap.size w w') => hl.up hb)
 clear hd hl
 go_enter Tryz.func3,Tryz.ntmps3
 go_wp2_with fail
 refine (small19_any w).mono ?_
 rintro e w1 ⟨rfl,hB⟩
 by_cases hG:10 < n ∨ 100 < k
 ·have hG':(10 < n) ∨ (n ≤ 10 ∧ 100 < k):=by omega
  clear hG
  rcases hG' with g0 | ⟨g0,g1⟩
  all_goals
   go_wp2_with fail
   go_ret
   exact ⟨rfl,hB⟩
 have hn1:n ≤ 10:=by omega
 have hn2:k ≤ 100:=by omega
 clear hG
 obtain ⟨Ra,hRa⟩:∃ R,(allR l f q now size by_).take (k:Int).toNat = R:=⟨_,rfl⟩
 obtain ⟨ma,hma⟩:∃ m,Ra.length = m:=⟨_,rfl⟩
 have HRa:=Lib.hid hRa
 have HMa:=Lib.hid hma
 clear hRa hma
 have hla:ma ≤ 1000000:=by rw [← HMa.out,← HRa.out,List.length_take]; omega
 go_wp2_with fail
 refine (broutes_v A n c l f q now size by_ k w1 HD.out (by omega) (by omega) (HL.out _ hB) Ra HRa.out ma HMa.out).mono ?_
 rintro e wk1 ⟨Aa,ca,rfl,ra,hb⟩
 replace hB:=hB.trans (hb.mono hB.size)
 clear hb
 go_wp2_with fail
 refine (rroutes19_any A n c l f q now size by_ k wk1 HD.out hn1 (HL.out _ hB)).mono ?_
 rintro e wk2 ⟨v,rfl,rv,hb⟩
 replace ra:=ra.below hb
 replace hB:=hB.trans (hb.mono hB.size)
 clear hb
 have hra:=ra.rl
 rw [HRa.out] at rv
 clear ra
 go_wp2_with fail
 refine (rsame13V hra rv (by rw [HMa.out]; exact hla)).mono ?_
 rintro e wk3 ⟨rfl,hb⟩
 replace rv:=rv.below hb
 replace hra:=hra.below hb
 replace hB:=hB.trans (hb.mono hB.size)
 clear hb
 go_wp2_with fail
 go_ret
 exact ⟨rfl,hB⟩
theorem bestTells_walk (A:Option Addr) (n kk:Nat) (ns:List Int) (f:Int) (q:Int) (now:Int) (size:Int) (by_:Int) (k:Int) (hnl:ns.length = n * 8) (_:∀ m ∈ ns,(Lit.int .i64 m).wf = true) (_:(Lit.int .i64 f).wf = true) (_:(Lit.int .i64 q).wf = true) (_:(Lit.int .i64 now).wf = true) (_:(Lit.int .i64 size).wf = true) (_:(Lit.int .i64 by_).wf = true) (_:(Lit.int .i64 k).wf = true) (w:World) (hl:Sl w w.heap.size 8 A n kk (ns.map (Value.int .i64))) :
  Calls Tryz.prog 3 #[.slice A n kk,.int .i64 f,.int .i64 q,.int .i64 now,.int .i64 size,.int .i64 by_,.int .i64 k] w fun e w' => e = .returned (.bool true) ∧ Below w.heap.size w w':=by
 obtain ⟨d,hd,hlf⟩:=rowsEd_of n ns hnl

 rw [hlf] at hl
 exact bestTells_w A n kk d f q now size by_ k w hd  hl 
theorem bestTells_own:ownKnob Tryz.prog.godebug = none:=by kernel_rfl
theorem bestTells_laidOut:laidOutB Tryz.prog = true:=by kernel_rfl

set_option maxHeartbeats 1000000 in
set_option maxRecDepth 100000 in
theorem bestTells_lifted (os:Os) (started:os.Started) (H:Type) (enc:TypeId × Value → H) :
  ReturnsInHanded {} Tryz.checked os 3 .any (Rows.bestTellsSpec.pre6 enc Tryz.prog Tryz.f3 Rows.bestTellsRow.domain false) (Rows.bestTellsSpec.post enc Tryz.prog Tryz.f3 false true false false):=by
 refine returnsInHanded_of_change (C:=Tryz.checked) bestTells_own started (by kernel_rfl) Tryz.func3
  (ChangeSpec.witness6 (enc:=enc) (C:=Tryz.checked) false ⟨#[],#[.slice none 0 0,.int .i64 0,.int .i64 0,.int .i64 0,.int .i64 0,.int .i64 0,.int .i64 0],[]⟩ 8 (by kernel_rfl) (by kernel_rfl) (by kernel_rfl) (by kernel_rfl)) ?_
 intro W base args ds gs before hval0 hW hcnd _
 have hval:∀ (j:Nat) t v,Tryz.f3.params[j]? = some t → args[j]? = some v → Value.okWide Tryz.prog W .any base t v:=hval0
 have hW':=hW
 obtain ⟨p,q,hA0,hV,rfl,hfz,hnd⟩:=hW
 have hA:DataW.TrodAll enc Tryz.prog W 0 (fun _ => true) true Tryz.f3.params.toList args.toList ds p:=hA0
 rw [Tryz.params3] at hA hval
 obtain ⟨v0,vs0,d0,ds0,p0,q0,hargs,rfl,rfl,h0,r0⟩:=trodAll_cons hA
 obtain ⟨v1,vs1,d1,ds1,p1,q1,rfl,rfl,rfl,h1,r1⟩:=trodAll_cons r0
 obtain ⟨v2,vs2,d2,ds2,p2,q2,rfl,rfl,rfl,h2,r2⟩:=trodAll_cons r1
 obtain ⟨v3,vs3,d3,ds3,p3,q3,rfl,rfl,rfl,h3,r3⟩:=trodAll_cons r2
 obtain ⟨v4,vs4,d4,ds4,p4,q4,rfl,rfl,rfl,h4,r4⟩:=trodAll_cons r3
 obtain ⟨v5,vs5,d5,ds5,p5,q5,rfl,rfl,rfl,h5,r5⟩:=trodAll_cons r4
 obtain ⟨v6,vs6,d6,ds6,p6,q6,rfl,rfl,rfl,h6,r6⟩:=trodAll_cons r5
 obtain ⟨rfl,rfl,rfl⟩:=trodAll_nil r6
 obtain rfl:args = #[v0,v1,v2,v3,v4,v5,v6]:=by cases args; simp_all
 obtain ⟨rfl,rfl⟩:=trodVars_none hV
 obtain ⟨A0,n0,c0,ns0,rfl,hl0,nl0,w0⟩:=open_rowsS 4 (K:=8) Tryz.underlying22 (by kernel_rfl) (by kernel_rfl) (by omega) (hval 0 22 v0 rfl rfl) h0
 obtain ⟨a1,rfl,rfl,rfl,w1⟩:=open_int Tryz.underlying3 (hval 1 3 v1 rfl rfl) h1
 obtain ⟨a2,rfl,rfl,rfl,w2⟩:=open_int Tryz.underlying3 (hval 2 3 v2 rfl rfl) h2
 obtain ⟨a3,rfl,rfl,rfl,w3⟩:=open_int Tryz.underlying3 (hval 3 3 v3 rfl rfl) h3
 obtain ⟨a4,rfl,rfl,rfl,w4⟩:=open_int Tryz.underlying3 (hval 4 3 v4 rfl rfl) h4
 obtain ⟨a5,rfl,rfl,rfl,w5⟩:=open_int Tryz.underlying3 (hval 5 3 v5 rfl rfl) h5
 obtain ⟨a6,rfl,rfl,rfl,w6⟩:=open_int Tryz.underlying3 (hval 6 3 v6 rfl rfl) h6
 clear hA0 hval0
 refine (bestTells_walk A0 n0 c0 ns0 a1 a2 a3 a4 a5 a6 nl0 w0 w1 w2 w3 w4 w5 w6 W hl0).mono fun e W' ⟨he,bel⟩ => ?_
 subst he
 exact ⟨_,rfl,law_post bestTells_laidOut (by kernel_rfl) rfl Tryz.underlying4 rfl rfl hW' bel⟩

theorem bestTells_proved:Rows.BestTellsSaid:=
 OpenClaim.holds_of_wide 3 Tryz.f3 rfl rfl rfl rfl rfl rfl rfl ⟨rfl,rfl,rfl,rfl,rfl⟩ rfl rfl rfl rfl rfl (by kernel_rfl) Tryz.func3 (by kernel_rfl)
  (of_decide_eq_true (by kernel_rfl)) (by unfold Func.isWrapper; first | (rw [if_pos (by decide +kernel)]; kernel_rfl) | (rw [if_neg (by decide +kernel)]; exact ⟨rfl,rfl⟩))
  (fun os started H enc _ => bestTells_lifted os started H enc)
#print axioms bestTells_proved
end Go.Proofs.YtkonkhblipbjcaaGreat
