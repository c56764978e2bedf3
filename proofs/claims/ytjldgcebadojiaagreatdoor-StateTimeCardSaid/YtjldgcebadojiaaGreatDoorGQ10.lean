/- Several texts of mine in one: Direct3, Plan. No condition. -/
import Derived.Test.YtjldgcebadojiaaGreatDoorDirect2
import Derived.Laws.EntriesVeiled
import Derived.Test.YtjldgcebadojiaaGreatDoorGQ6
import Derived.Test.YtjldgcebadojiaaGreatDoorGQ0
import Derived.Test.YtjldgcebadojiaaGreatDoorGQ7
import Derived.Deep.RegionLaw
namespace Go.Proofs.YtjldgcebadojiaaGreatDoor
open Go.ChangeShapes Go.WideShapes Go.ChangeAt Go.RowKit Go.Sort
set_option linter.unusedSimpArgs false
set_option linter.unusedVariables false
theorem zeroForm (w:World):(zeroValue 126).run Tryz.prog w = .ok (.agg #[.nilFunc,.nilFunc,.nilFunc]) w:=by kernel_rfl
theorem look_form {w:World} {b n:Nat} {S:Lit → Option Value} (hM:MapV w 131 b n S) (hS:IsS (fun _ => true) S) {x y:Int} (hx:(Lit.int .i64 x).wf = true) (hy:(Lit.int .i64 y).wf = true) (v:Value) (hv:(formV x y).getD (.agg #[.nilFunc,.nilFunc,.nilFunc]) = v) (c:Bool) (hc:(formV x y).isSome = c) :
  (Instr.lookup 128 (.map (some b)) (.agg #[.int .i64 x,.int .i64 y]) true).run Tryz.prog w = .ok (.tuple #[v,.bool c]) w:=by
 have h:=hM.look_ok keyedD Tryz.underlying128 (zeroForm w) (keyOfD hx hy) (keyD_is _ _)
 rw [formS_at hS hx hy] at h
 rw [← hv,← hc]
 exact h
set_option maxHeartbeats 8000000 in
set_option maxRecDepth 100000 in
theorem dright_no (d:Dr) (w:World) (hw0:(Lit.int .i64 d.op).wf = true) (hw1:(Lit.int .i64 d.kd).wf = true) (hn:formV d.op d.kd = none):Calls Tryz.prog 178 #[.agg #[.int .i64 d.op,.int .i64 d.kd,.int .i64 d.id,.int .i64 d.fr,.int .i64 d.tn,.int .i64 d.st,.int .i64 d.en,.int .i64 d.rt,.int .i64 d.rf,.int .i64 d.rn,.int .i64 d.rs,.int .i64 d.re,.int .i64 d.ro]] w fun e w' => e = .returned (.bool false) ∧ Below w.heap.size w w':=by
 have hB:Below w.heap.size w (w.alloc (.cells #[.int .i64 d.op,.int .i64 d.kd,.int .i64 d.id,.int .i64 d.fr,.int .i64 d.tn,.int .i64 d.st,.int .i64 d.en,.int .i64 d.rt,.int .i64 d.rf,.int .i64 d.rn,.int .i64 d.rs,.int .i64 d.re,.int .i64 d.ro] 38)):=by (repeat (first | exact Below.refl _ _ | refine Below.alloc ?_ (by first | omega | (simp; done) | (simp; omega)) _ | refine Below.setCell ?_ (by first | omega | (simp; done) | (simp; omega)) _ | refine Below.drew ?_))
 have hX:=Blok.new w 38 #[.int .i64 d.op,.int .i64 d.kd,.int .i64 d.id,.int .i64 d.fr,.int .i64 d.tn,.int .i64 d.st,.int .i64 d.en,.int .i64 d.rt,.int .i64 d.rf,.int .i64 d.rn,.int .i64 d.rs,.int .i64 d.re,.int .i64 d.ro]
 have hs:=hB.size
 have hfv:(formV d.op d.kd).getD (.agg #[.nilFunc,.nilFunc,.nilFunc]) = .agg #[.nilFunc,.nilFunc,.nilFunc]:=by rw [hn]; rfl
 have hfo:(formV d.op d.kd).isSome = false:=by rw [hn]; rfl
 clear hn
 go_enter Tryz.func178,Tryz.ntmps178
 go_upto_region 1 with fail
 generalize w.alloc (.cells #[.int .i64 d.op,.int .i64 d.kd,.int .i64 d.id,.int .i64 d.fr,.int .i64 d.tn,.int .i64 d.st,.int .i64 d.en,.int .i64 d.rt,.int .i64 d.rf,.int .i64 d.rn,.int .i64 d.rs,.int .i64 d.re,.int .i64 d.ro] 38) = w0 at *
 go_cut [3,4] (fun p s wx => ∃ bx,p = .pointer (some ⟨bx,0,none⟩) ∧ s = .bool false ∧ w0.heap.size ≤ bx ∧ Below w0.heap.size w0 wx ∧ Blok wx bx 126 #[.nilFunc,.nilFunc,.nilFunc])
 case first =>
  have HFOOT:=Lib.hid (fun (w':World) (hb:Below w0.heap.size w0 w') => (show w'.cell? ⟨w.heap.size,0,none⟩ = some (.int .i64 d.op) ∧ w'.cell? ⟨w.heap.size,1,none⟩ = some (.int .i64 d.kd) from ⟨(hX.below hb hX.lt).cell 0,(hX.below hb hX.lt).cell 1⟩))
  have r0:w0.cell? ⟨w.heap.size,0,none⟩ = some (.int .i64 d.op):=hX.cell 0
  have r1:w0.cell? ⟨w.heap.size,1,none⟩ = some (.int .i64 d.kd):=hX.cell 1
  have lt_x:=hX.lt
  have hC:Below w0.heap.size w0 w0:=Below.refl _ _
  clear hX hB hs
  try simp only [List.append]
  go_region_held3 (fun w' => w'.cell? ⟨w.heap.size,0,none⟩ = some (.int .i64 d.op) ∧ w'.cell? ⟨w.heap.size,1,none⟩ = some (.int .i64 d.kd))
   (first | exact HFOOT.out _ hC | exact HFOOT.out _ (by (repeat (first | exact Below.refl _ _ | exact hC | refine Below.alloc ?_ (by first | omega | (simp; done) | (simp; omega)) _ | refine Below.setCell ?_ (by first | omega | (simp; done) | (simp; omega)) _ | refine Below.drew ?_ | refine Below.trans ?_ (hC.mono (by first | omega | (simp; done) | (simp; omega)))))) | go_keep)
   (first
    | (go_at_call 109; (with_reducible refine Calls.mono (forms_any _) ?_); rintro e x1 ⟨bm,nm,S,rfl,hge,hM,hS,hbx⟩; replace hC:Below w0.heap.size w0 x1:=Below.trans (by (repeat (first | exact Below.refl _ _ | exact hC | refine Below.alloc ?_ (by first | omega | (simp; done) | (simp; omega)) _ | refine Below.setCell ?_ (by first | omega | (simp; done) | (simp; omega)) _ | refine Below.drew ?_ | refine Below.trans ?_ (hC.mono (by first | omega | (simp; done) | (simp; omega)))))) (hbx.mono (by first | exact Nat.le_refl _ | (simp; done) | (simp; omega))); have hsC:=hC.size; have hl1:=look_form hM hS hw0 hw1 _ hfv _ hfo; have hl2:=look_form (hM.alloc (.cells #[.nilFunc,.nilFunc,.nilFunc] 126)) hS hw0 hw1 _ hfv _ hfo; have hq:=Blok.new x1 126 #[.nilFunc,.nilFunc,.nilFunc]; (try (have hzz:Blok x1 w0.heap.size 126 #[.nilFunc,.nilFunc,.nilFunc]:=(by with_reducible exact Blok.below (Blok.new w0.drew 126 #[.nilFunc,.nilFunc,.nilFunc]) hbx (by simp)); have z0:x1.cell? ⟨w0.heap.size,0,none⟩ = some .nilFunc:=hzz.cell 0; have y0:=hzz.free 0; have z1:x1.cell? ⟨w0.heap.size,1,none⟩ = some .nilFunc:=hzz.cell 1; have y1:=hzz.free 1; have z2:x1.cell? ⟨w0.heap.size,2,none⟩ = some .nilFunc:=hzz.cell 2; have y2:=hzz.free 2; have ltz:=hzz.lt)); clear hM hge hbx))
  all_goals
   go_wp2
   go_meet
   first
    | exact ⟨_,rfl,rfl,hsC,hC.alloc hsC _,Blok.new _ _ _⟩
    | exact ⟨_,rfl,rfl,Nat.le_refl _,by (repeat (first | exact Below.refl _ _ | exact hC | refine Below.alloc ?_ (by first | omega | (simp; done) | (simp; omega)) _ | refine Below.setCell ?_ (by first | omega | (simp; done) | (simp; omega)) _ | refine Below.drew ?_ | refine Below.trans ?_ (hC.mono (by first | omega | (simp; done) | (simp; omega))))),by have h:=((hzz.set_ 0 (.nilFunc)).set_ 1 (.nilFunc)).set_ 2 (.nilFunc); simpa using h⟩
 case rest =>
  revert wc
  intro w1 hcut
  obtain ⟨bx,rfl,rfl,hbx,hb,hF⟩:=hcut
  clear hfv hfo
  replace hX:=hX.below hb hX.lt
  replace hB:=hB.trans (hb.mono hs)
  replace hs:=hB.size
  clear hb
  go_wp2_with fail
  try simp only [List.append]
  first | refine wp_region_text_below ?_ | refine wp_region_quiet_below (by kernel_rfl) (by kernel_rfl) ?_
  repeat (go_big_quiet_step ((fail)))
  refine wpQuiet_nil ?_
  intro _ hqw
  obtain ⟨pq,hqw⟩:=hqw
  subst hqw
  have hbq:=hB.trans ((below_regrown w1 pq.d pq.os).mono hs)
  generalize grow (redrawn w1 pq.d) pq.os = wq at *
  go_wp2
  go_ret
  exact ⟨rfl,hbq⟩
set_option maxHeartbeats 16000000 in
set_option maxRecDepth 100000 in
theorem dright_yes (d:Dr) (w:World) (hw0:(Lit.int .i64 d.op).wf = true) (hw1:(Lit.int .i64 d.kd).wf = true) (f1 f2 f3:FuncId) (ns:List Int) (y:Dr) (mb:Bool) (hn:formV d.op d.kd = some (formOf f1 f2 f3)) (hc:FormC d f1 f2 f3 ns y mb) (z:Dr) (hz:withDo y d.op d.kd = z) (qb:Bool) (hqb:decide (d = z) = qb):Calls Tryz.prog 178 #[.agg #[.int .i64 d.op,.int .i64 d.kd,.int .i64 d.id,.int .i64 d.fr,.int .i64 d.tn,.int .i64 d.st,.int .i64 d.en,.int .i64 d.rt,.int .i64 d.rf,.int .i64 d.rn,.int .i64 d.rs,.int .i64 d.re,.int .i64 d.ro]] w fun e w' => e = .returned (.bool (mb && qb)) ∧ Below w.heap.size w w':=by
 have hB:Below w.heap.size w (w.alloc (.cells #[.int .i64 d.op,.int .i64 d.kd,.int .i64 d.id,.int .i64 d.fr,.int .i64 d.tn,.int .i64 d.st,.int .i64 d.en,.int .i64 d.rt,.int .i64 d.rf,.int .i64 d.rn,.int .i64 d.rs,.int .i64 d.re,.int .i64 d.ro] 38)):=by (repeat (first | exact Below.refl _ _ | refine Below.alloc ?_ (by first | omega | (simp; done) | (simp; omega)) _ | refine Below.setCell ?_ (by first | omega | (simp; done) | (simp; omega)) _ | refine Below.drew ?_))
 have hX:=Blok.new w 38 #[.int .i64 d.op,.int .i64 d.kd,.int .i64 d.id,.int .i64 d.fr,.int .i64 d.tn,.int .i64 d.st,.int .i64 d.en,.int .i64 d.rt,.int .i64 d.rf,.int .i64 d.rn,.int .i64 d.rs,.int .i64 d.re,.int .i64 d.ro]
 have hs:=hB.size
 have hfv:(formV d.op d.kd).getD (.agg #[.nilFunc,.nilFunc,.nilFunc]) = .agg #[.func (.func f1) #[] #[],.func (.func f2) #[] #[],.func (.func f3) #[] #[]]:=by rw [hn]; rfl
 have hfo:(formV d.op d.kd).isSome = true:=by rw [hn]; rfl
 have HC:=Lib.hid hc
 have HZ:=Lib.hid hz
 clear hn hc hz
 go_enter Tryz.func178,Tryz.ntmps178
 go_upto_region 1 with fail
 generalize w.alloc (.cells #[.int .i64 d.op,.int .i64 d.kd,.int .i64 d.id,.int .i64 d.fr,.int .i64 d.tn,.int .i64 d.st,.int .i64 d.en,.int .i64 d.rt,.int .i64 d.rf,.int .i64 d.rn,.int .i64 d.rs,.int .i64 d.re,.int .i64 d.ro] 38) = w0 at *
 go_cut [3,4] (fun p s wx => ∃ bx,p = .pointer (some ⟨bx,0,none⟩) ∧ s = .bool true ∧ w0.heap.size ≤ bx ∧ Below w0.heap.size w0 wx ∧ Blok wx bx 126 #[.func (.func f1) #[] #[],.func (.func f2) #[] #[],.func (.func f3) #[] #[]])
 case first =>
  have HFOOT:=Lib.hid (fun (w':World) (hb:Below w0.heap.size w0 w') => (show w'.cell? ⟨w.heap.size,0,none⟩ = some (.int .i64 d.op) ∧ w'.cell? ⟨w.heap.size,1,none⟩ = some (.int .i64 d.kd) from ⟨(hX.below hb hX.lt).cell 0,(hX.below hb hX.lt).cell 1⟩))
  have r0:w0.cell? ⟨w.heap.size,0,none⟩ = some (.int .i64 d.op):=hX.cell 0
  have r1:w0.cell? ⟨w.heap.size,1,none⟩ = some (.int .i64 d.kd):=hX.cell 1
  have lt_x:=hX.lt
  have hC:Below w0.heap.size w0 w0:=Below.refl _ _
  clear hX hB hs
  try simp only [List.append]
  go_region_held3 (fun w' => w'.cell? ⟨w.heap.size,0,none⟩ = some (.int .i64 d.op) ∧ w'.cell? ⟨w.heap.size,1,none⟩ = some (.int .i64 d.kd))
   (first | exact HFOOT.out _ hC | exact HFOOT.out _ (by (repeat (first | exact Below.refl _ _ | exact hC | refine Below.alloc ?_ (by first | omega | (simp; done) | (simp; omega)) _ | refine Below.setCell ?_ (by first | omega | (simp; done) | (simp; omega)) _ | refine Below.drew ?_ | refine Below.trans ?_ (hC.mono (by first | omega | (simp; done) | (simp; omega)))))) | go_keep)
   (first
    | (go_at_call 109; (with_reducible refine Calls.mono (forms_any _) ?_); rintro e x1 ⟨bm,nm,S,rfl,hge,hM,hS,hbx⟩; replace hC:Below w0.heap.size w0 x1:=Below.trans (by (repeat (first | exact Below.refl _ _ | exact hC | refine Below.alloc ?_ (by first | omega | (simp; done) | (simp; omega)) _ | refine Below.setCell ?_ (by first | omega | (simp; done) | (simp; omega)) _ | refine Below.drew ?_ | refine Below.trans ?_ (hC.mono (by first | omega | (simp; done) | (simp; omega)))))) (hbx.mono (by first | exact Nat.le_refl _ | (simp; done) | (simp; omega))); have hsC:=hC.size; have hl1:=look_form hM hS hw0 hw1 _ hfv _ hfo; have hl2:=look_form (hM.alloc (.cells #[.nilFunc,.nilFunc,.nilFunc] 126)) hS hw0 hw1 _ hfv _ hfo; have hq:=Blok.new x1 126 #[.nilFunc,.nilFunc,.nilFunc]; (try (have hzz:Blok x1 w0.heap.size 126 #[.nilFunc,.nilFunc,.nilFunc]:=(by with_reducible exact Blok.below (Blok.new w0.drew 126 #[.nilFunc,.nilFunc,.nilFunc]) hbx (by simp)); have z0:x1.cell? ⟨w0.heap.size,0,none⟩ = some .nilFunc:=hzz.cell 0; have y0:=hzz.free 0; have z1:x1.cell? ⟨w0.heap.size,1,none⟩ = some .nilFunc:=hzz.cell 1; have y1:=hzz.free 1; have z2:x1.cell? ⟨w0.heap.size,2,none⟩ = some .nilFunc:=hzz.cell 2; have y2:=hzz.free 2; have ltz:=hzz.lt)); clear hM hge hbx))
  all_goals
   go_wp2
   go_meet
   first
    | exact ⟨_,rfl,rfl,hsC,hC.alloc hsC _,Blok.new _ _ _⟩
    | exact ⟨_,rfl,rfl,Nat.le_refl _,by (repeat (first | exact Below.refl _ _ | exact hC | refine Below.alloc ?_ (by first | omega | (simp; done) | (simp; omega)) _ | refine Below.setCell ?_ (by first | omega | (simp; done) | (simp; omega)) _ | refine Below.drew ?_ | refine Below.trans ?_ (hC.mono (by first | omega | (simp; done) | (simp; omega))))),by have h:=((hzz.set_ 0 (.func (.func f1) #[] #[])).set_ 1 (.func (.func f2) #[] #[])).set_ 2 (.func (.func f3) #[] #[]); simpa using h⟩
 case rest =>
  revert wc
  intro w1 hcut
  obtain ⟨bx,rfl,rfl,hbx,hb,hF⟩:=hcut
  clear hfv hfo
  replace hX:=hX.below hb hX.lt
  replace hB:=hB.trans (hb.mono hs)
  replace hs:=hB.size
  clear hb
  have hcf1:=HC.out.e1
  have hcf2:=HC.out.e2
  have hcf3:=HC.out.e3
  unfold EnterF at hcf1 hcf2 hcf3
  have HNU:=Lib.hid HC.out.nums
  have HFI:=Lib.hid HC.out.fill
  have HMA:=Lib.hid HC.out.may
  have HE2:=Lib.hid HC.out.e2
  have heq:=eqlDr d z
  rw [hqb] at heq
  have HMD:Hid (∀ (A:Option Addr) (c:Nat) (w':World),Sl w' w'.heap.size 1 A ns.length c (ns.map (Value.int .i64)) → Calls Tryz.prog 111 #[.int .i64 d.op,.int .i64 d.kd,.agg #[.func (.func f1) #[] #[],.func (.func f2) #[] #[],.func (.func f3) #[] #[]],.slice A ns.length c] w' fun e w'' => e = .returned (.agg #[.int .i64 z.op,.int .i64 z.kd,.int .i64 z.id,.int .i64 z.fr,.int .i64 z.tn,.int .i64 z.st,.int .i64 z.en,.int .i64 z.rt,.int .i64 z.rf,.int .i64 z.rn,.int .i64 z.rs,.int .i64 z.re,.int .i64 z.ro]) ∧ Below w'.heap.size w' w''):=fun A c w' h => by
   have h1:=made_any f1 f2 f3 A ns.length c ns y d.op d.kd HE2.out (fun w => HFI.out A c w) w' h
   rw [HZ.out] at h1
   exact h1
  have HFOOT:=Lib.hid (fun (w':World) (hb:Below w1.heap.size w1 w') => (show w'.cell? ⟨w.heap.size,0,none⟩ = some (.int .i64 d.op) ∧ w'.cell? ⟨w.heap.size,1,none⟩ = some (.int .i64 d.kd) ∧ w'.cell? ⟨w.heap.size,2,none⟩ = some (.int .i64 d.id) ∧ w'.cell? ⟨w.heap.size,3,none⟩ = some (.int .i64 d.fr) ∧ w'.cell? ⟨w.heap.size,4,none⟩ = some (.int .i64 d.tn) ∧ w'.cell? ⟨w.heap.size,5,none⟩ = some (.int .i64 d.st) ∧ w'.cell? ⟨w.heap.size,6,none⟩ = some (.int .i64 d.en) ∧ w'.cell? ⟨w.heap.size,7,none⟩ = some (.int .i64 d.rt) ∧ w'.cell? ⟨w.heap.size,8,none⟩ = some (.int .i64 d.rf) ∧ w'.cell? ⟨w.heap.size,9,none⟩ = some (.int .i64 d.rn) ∧ w'.cell? ⟨w.heap.size,10,none⟩ = some (.int .i64 d.rs) ∧ w'.cell? ⟨w.heap.size,11,none⟩ = some (.int .i64 d.re) ∧ w'.cell? ⟨w.heap.size,12,none⟩ = some (.int .i64 d.ro) ∧ w'.cell? ⟨bx,0,none⟩ = some (.func (.func f1) #[] #[]) ∧ w'.cell? ⟨bx,1,none⟩ = some (.func (.func f2) #[] #[]) ∧ w'.cell? ⟨bx,2,none⟩ = some (.func (.func f3) #[] #[]) from ⟨(hX.below hb hX.lt).cell 0,(hX.below hb hX.lt).cell 1,(hX.below hb hX.lt).cell 2,(hX.below hb hX.lt).cell 3,(hX.below hb hX.lt).cell 4,(hX.below hb hX.lt).cell 5,(hX.below hb hX.lt).cell 6,(hX.below hb hX.lt).cell 7,(hX.below hb hX.lt).cell 8,(hX.below hb hX.lt).cell 9,(hX.below hb hX.lt).cell 10,(hX.below hb hX.lt).cell 11,(hX.below hb hX.lt).cell 12,(hF.below hb hF.lt).cell 0,(hF.below hb hF.lt).cell 1,(hF.below hb hF.lt).cell 2⟩))
  have hFF:=HFOOT.out w1 (Below.refl _ _)
  obtain ⟨r0,r1,r2,r3,r4,r5,r6,r7,r8,r9,r10,r11,r12,g0,g1,g2⟩:=hFF
  have lt_x:=hX.lt
  have lt_f:=hF.lt
  have hC:Below w1.heap.size w1 w1:=Below.refl _ _
  have HBB:=Lib.hid hB
  clear hX hF hqb hB HC
  go_upto_region 2 with fail
  cases mb
  case false =>
   have HM2:=HMA
   clear HFOOT
   have q_r0:=fun d os => cell_regrown r0 d os
   have q_r1:=fun d os => cell_regrown r1 d os
   have q_r2:=fun d os => cell_regrown r2 d os
   have q_r3:=fun d os => cell_regrown r3 d os
   have q_r4:=fun d os => cell_regrown r4 d os
   have q_r5:=fun d os => cell_regrown r5 d os
   have q_r6:=fun d os => cell_regrown r6 d os
   have q_r7:=fun d os => cell_regrown r7 d os
   have q_r8:=fun d os => cell_regrown r8 d os
   have q_r9:=fun d os => cell_regrown r9 d os
   have q_r10:=fun d os => cell_regrown r10 d os
   have q_r11:=fun d os => cell_regrown r11 d os
   have q_r12:=fun d os => cell_regrown r12 d os
   have q_g0:=fun d os => cell_regrown g0 d os
   have q_g1:=fun d os => cell_regrown g1 d os
   have q_g2:=fun d os => cell_regrown g2 d os
   try simp only [List.append]
   first | refine wp_region_text_below ?_ | refine wp_region_quiet_below (by kernel_rfl) (by kernel_rfl) ?_
   repeat (go_big_quiet_step (((with_reducible exact Calls.regrown_of (HM2.out _)))))
   refine wpQuiet_nil ?_
   intro _ hqw
   obtain ⟨pq,hqw⟩:=hqw
   subst hqw
   clear q_r0 q_r1 q_r2 q_r3 q_r4 q_r5 q_r6 q_r7 q_r8 q_r9 q_r10 q_r11 q_r12 q_g0 q_g1 q_g2
   have hbq:=HBB.out.trans ((below_regrown w1 pq.d pq.os).mono hs)
   generalize grow (redrawn w1 pq.d) pq.os = wq at *
   go_wp2
   go_ret
   exact ⟨rfl,hbq⟩
  case true =>
   try simp only [List.append]
   go_region_held3 (fun w' => w'.cell? ⟨w.heap.size,0,none⟩ = some (.int .i64 d.op) ∧ w'.cell? ⟨w.heap.size,1,none⟩ = some (.int .i64 d.kd) ∧ w'.cell? ⟨w.heap.size,2,none⟩ = some (.int .i64 d.id) ∧ w'.cell? ⟨w.heap.size,3,none⟩ = some (.int .i64 d.fr) ∧ w'.cell? ⟨w.heap.size,4,none⟩ = some (.int .i64 d.tn) ∧ w'.cell? ⟨w.heap.size,5,none⟩ = some (.int .i64 d.st) ∧ w'.cell? ⟨w.heap.size,6,none⟩ = some (.int .i64 d.en) ∧ w'.cell? ⟨w.heap.size,7,none⟩ = some (.int .i64 d.rt) ∧ w'.cell? ⟨w.heap.size,8,none⟩ = some (.int .i64 d.rf) ∧ w'.cell? ⟨w.heap.size,9,none⟩ = some (.int .i64 d.rn) ∧ w'.cell? ⟨w.heap.size,10,none⟩ = some (.int .i64 d.rs) ∧ w'.cell? ⟨w.heap.size,11,none⟩ = some (.int .i64 d.re) ∧ w'.cell? ⟨w.heap.size,12,none⟩ = some (.int .i64 d.ro) ∧ w'.cell? ⟨bx,0,none⟩ = some (.func (.func f1) #[] #[]) ∧ w'.cell? ⟨bx,1,none⟩ = some (.func (.func f2) #[] #[]) ∧ w'.cell? ⟨bx,2,none⟩ = some (.func (.func f3) #[] #[]))
    (first | exact HFOOT.out _ hC | exact HFOOT.out _ (by (repeat (first | exact Below.refl _ _ | exact hC | refine Below.alloc ?_ (by first | omega | (simp; done) | (simp; omega)) _ | refine Below.setCell ?_ (by first | omega | (simp; done) | (simp; omega)) _ | refine Below.drew ?_ | refine Below.trans ?_ (hC.mono (by first | omega | (simp; done) | (simp; omega)))))) | go_keep)
    (first
     | ((with_reducible refine Calls.mono (HMA.out _) ?_); rintro e wn ⟨rfl,hbn⟩; replace hC:Below w1.heap.size w1 wn:=Below.trans (by (repeat (first | exact Below.refl _ _ | exact hC | refine Below.alloc ?_ (by first | omega | (simp; done) | (simp; omega)) _ | refine Below.setCell ?_ (by first | omega | (simp; done) | (simp; omega)) _ | refine Below.drew ?_ | refine Below.trans ?_ (hC.mono (by first | omega | (simp; done) | (simp; omega)))))) (hbn.mono (by first | exact hC.size | (have:=hC.size; simp at *; omega))); clear hbn)
     | ((with_reducible refine Calls.mono (HNU.out _) ?_); rintro e wn ⟨v,rfl,hv,hbn⟩; obtain ⟨Av,cv,rfl⟩:=slice_of_own hv; replace hC:Below w1.heap.size w1 wn:=Below.trans (by (repeat (first | exact Below.refl _ _ | exact hC | refine Below.alloc ?_ (by first | omega | (simp; done) | (simp; omega)) _ | refine Below.setCell ?_ (by first | omega | (simp; done) | (simp; omega)) _ | refine Below.drew ?_ | refine Below.trans ?_ (hC.mono (by first | omega | (simp; done) | (simp; omega)))))) (hbn.mono (by first | exact hC.size | (have:=hC.size; simp at *; omega))); clear hbn)
     | (go_at_call 111; (with_reducible refine Calls.mono (HMD.out Av cv _ (Sl.of_own hv)) ?_); rintro e wn ⟨rfl,hbn⟩; replace hC:Below w1.heap.size w1 wn:=Below.trans (by (repeat (first | exact Below.refl _ _ | exact hC | refine Below.alloc ?_ (by first | omega | (simp; done) | (simp; omega)) _ | refine Below.setCell ?_ (by first | omega | (simp; done) | (simp; omega)) _ | refine Below.drew ?_ | refine Below.trans ?_ (hC.mono (by first | omega | (simp; done) | (simp; omega)))))) (hbn.mono (by first | exact hC.size | (have:=hC.size; simp at *; omega))); clear hbn))
   all_goals
    go_wp2
    go_ret
    exact ⟨rfl,HBB.out.trans (hC.mono hs)⟩
theorem dright_any (d:Dr) (w:World) (hw0:(Lit.int .i64 d.op).wf = true) (hw1:(Lit.int .i64 d.kd).wf = true) (b:Bool) (hb:rightD d = b):Calls Tryz.prog 178 #[.agg #[.int .i64 d.op,.int .i64 d.kd,.int .i64 d.id,.int .i64 d.fr,.int .i64 d.tn,.int .i64 d.st,.int .i64 d.en,.int .i64 d.rt,.int .i64 d.rf,.int .i64 d.rn,.int .i64 d.rs,.int .i64 d.re,.int .i64 d.ro]] w fun e w' => e = .returned (.bool b) ∧ Below w.heap.size w w':=by
 subst hb
 rcases form_cases d with ⟨h1,h2⟩ | ⟨h1,f1,f2,f3,ns,y,h2,h3,h4⟩
 ·unfold rightD
  rw [h2]
  exact dright_no d w hw0 hw1 h1
 ·unfold rightD
  rw [h1,h4]
  exact dright_yes d w hw0 hw1 f1 f2 f3 ns y _ h2 h3 _ rfl _ rfl
theorem own_below {w w':World} {base:Nat} {e:TypeId} {size n:Nat} {v:Value} {xs:List Value} (h:w.ownsRow base e size v n xs) (hb:Below w.heap.size w w'):w'.ownsRow base e size v n xs:=Kc.own_below h hb
structure Pl where
 cs:List Co
 rs:List Rg
 clk:Int
 ver:Int
def Pl.right (p:Pl):Bool:=rightP p.cs p.rs p.clk p.ver
def coD (d:Dr):Co:=⟨d.id,d.fr,d.tn,d.st,d.en,d.rt⟩
def rgD (d:Dr):Rg:=⟨d.rf,d.rn,d.rs,d.re,d.ro⟩
def endD (d:Dr):Int:=if d.kd = 1 then d.en else d.re
def stepCq (cs:List Co) (d:Dr):Int:=if d.op = 1 then Kc.mayC cs (coD d) else if d.op = 2 then delTq cs d.id else chgTq cs d.id d.rt
def stepCl (cs:List Co) (d:Dr):List Co:=if d.op = 1 then addT cs (coD d) else if d.op = 2 then delT cs d.id else chgT cs d.id d.rt
def stepRq (rs:List Rg) (d:Dr):Int:=if d.op = 1 then Kr.mayF rs (rgD d) else if d.op = 2 then delUq rs (rgD d) else chgUq rs (rgD d)
def stepRl (rs:List Rg) (d:Dr):List Rg:=if d.op = 1 then addU rs (rgD d) else if d.op = 2 then delU rs (rgD d) else chgU rs (rgD d)
def stepQ (p:Pl) (d:Dr):Int:=
 if rightD d = false then 1 else if d.op = 1 ∧ endD d ≤ p.clk then 7 else if d.kd = 1 then stepCq p.cs d else stepRq p.rs d
def stepP (p:Pl) (d:Dr):Pl:=
 if stepQ p d = 0 then (if d.kd = 1 then ⟨stepCl p.cs d,p.rs,p.clk,min (p.ver + 1) 1099511627776⟩ else ⟨p.cs,stepRl p.rs d,p.clk,min (p.ver + 1) 1099511627776⟩) else p
structure PlAt (w:World) (A1:Option Addr) (n1 c1:Nat) (A:Option Addr) (n c:Nat) (p:Pl):Prop where
 l1:p.cs.length = n1
 l:p.rs.length = n
 b1:n1 ≤ 100000
 b:n ≤ 100000
 s1:Sl w w.heap.size 6 A1 n1 c1 (flatCo p.cs)
 s:Sl w w.heap.size 5 A n c (flatRg p.rs)
theorem PlAt.up {w w':World} {A1:Option Addr} {n1 c1:Nat} {A:Option Addr} {n c:Nat} {p:Pl} (h:PlAt w A1 n1 c1 A n c p) (hb:Below w.heap.size w w'):PlAt w' A1 n1 c1 A n c p:=⟨h.l1,h.l,h.b1,h.b,h.s1.up hb,h.s.up hb⟩
structure PlOwn (w:World) (base:Nat) (A1:Option Addr) (n1 c1:Nat) (A:Option Addr) (n c:Nat) (p:Pl):Prop where
 l1:p.cs.length = n1
 l:p.rs.length = n
 b1:n1 ≤ 100000
 b:n ≤ 100000
 o1:w.ownsRow base 34 6 (.slice A1 n1 c1) n1 (flatCo p.cs)
 o:w.ownsRow base 36 5 (.slice A n c) n (flatRg p.rs)
theorem PlOwn.at_ {w:World} {base:Nat} {A1:Option Addr} {n1 c1:Nat} {A:Option Addr} {n c:Nat} {p:Pl} (h:PlOwn w base A1 n1 c1 A n c p):PlAt w A1 n1 c1 A n c p:=⟨h.l1,h.l,h.b1,h.b,Sl.of_own h.o1,Sl.of_own h.o⟩
theorem PlOwn.below {w w':World} {base:Nat} {A1:Option Addr} {n1 c1:Nat} {A:Option Addr} {n c:Nat} {p:Pl} (h:PlOwn w base A1 n1 c1 A n c p) (hb:Below w.heap.size w w'):PlOwn w' base A1 n1 c1 A n c p:=⟨h.l1,h.l,h.b1,h.b,own_below h.o1 hb,own_below h.o hb⟩
theorem PlOwn.down {w:World} {base b':Nat} {A1:Option Addr} {n1 c1:Nat} {A:Option Addr} {n c:Nat} {p:Pl} (h:PlOwn w base A1 n1 c1 A n c p) (hb:b' ≤ base):PlOwn w b' A1 n1 c1 A n c p:=⟨h.l1,h.l,h.b1,h.b,own_down h.o1 hb,own_down h.o hb⟩
set_option maxRecDepth 100000 in
theorem pnew_any (w:World):Calls Tryz.prog 73 #[] w fun e w' => e = .returned (.agg #[.slice none 0 0,.slice none 0 0,.int .i64 0,.int .i64 0]) ∧ Below w.heap.size w w':=by
 have hB:Below w.heap.size w (w.alloc (.cells #[.slice none 0 0,.slice none 0 0,.int .i64 0,.int .i64 0] 25)):=by (repeat (first | exact Below.refl _ _ | refine Below.alloc ?_ (by first | omega | (simp; done) | (simp; omega)) _ | refine Below.setCell ?_ (by first | omega | (simp; done) | (simp; omega)) _ | refine Below.drew ?_))
 have hX:=Blok.new w 25 #[.slice none 0 0,.slice none 0 0,.int .i64 0,.int .i64 0]
 go_enter Tryz.func73,Tryz.ntmps73
 go_upto_region 1 with fail
 generalize w.alloc (.cells #[.slice none 0 0,.slice none 0 0,.int .i64 0,.int .i64 0] 25) = w1 at *
 have r0:w1.cell? ⟨w.heap.size,0,none⟩ = some (.slice none 0 0):=hX.cell 0
 have f0:=hX.free 0
 have r1:w1.cell? ⟨w.heap.size,1,none⟩ = some (.slice none 0 0):=hX.cell 1
 have f1:=hX.free 1
 have r2:w1.cell? ⟨w.heap.size,2,none⟩ = some (.int .i64 0):=hX.cell 2
 have f2:=hX.free 2
 have r3:w1.cell? ⟨w.heap.size,3,none⟩ = some (.int .i64 0):=hX.cell 3
 have f3:=hX.free 3
 have lt_x:=hX.lt
 have HX:=Lib.hid hX
 clear hX
 go_wp2_with fail
 have hX:=HX.out
 clear r0 r1 r2 r3
 obtain ⟨hF,hWf,hgw⟩:=ret4 (show Blok _ _ _ #[_,_,_,_] from hX) hB (show w.heap.size ≤ w.heap.size by first | exact Nat.le_refl _ | omega) (.slice none 0 0) (.slice none 0 0) (.int .i64 0) (.int .i64 0)
 have hlF:=hF.lt
 generalize (((w1.setCell ⟨w.heap.size,0,none⟩ (.slice none 0 0)).setCell ⟨w.heap.size,1,none⟩ (.slice none 0 0)).setCell ⟨w.heap.size,2,none⟩ (.int .i64 0)).setCell ⟨w.heap.size,3,none⟩ (.int .i64 0) = wf at *
 obtain ⟨r0,r1,r2,r3,_⟩:=blok4 hF
 refine bodyPost_ret (v:=.agg #[.slice none 0 0,.slice none 0 0,.int .i64 0,.int .i64 0]) (by simp [results,Tryz.results73,go_sem,r0,r1,r2,r3,hlF]) rfl ?_
 exact ⟨rfl,hWf⟩
set_option maxHeartbeats 1000000 in
set_option maxRecDepth 100000 in
theorem pend_any (d:Dr) (w:World) (v:Int) (hv:endD d = v):Calls Tryz.prog 179 #[.agg #[.int .i64 d.op,.int .i64 d.kd,.int .i64 d.id,.int .i64 d.fr,.int .i64 d.tn,.int .i64 d.st,.int .i64 d.en,.int .i64 d.rt,.int .i64 d.rf,.int .i64 d.rn,.int .i64 d.rs,.int .i64 d.re,.int .i64 d.ro]] w fun e w' => e = .returned (.int .i64 v) ∧ Below w.heap.size w w':=by
 subst hv
 unfold endD
 by_cases h:d.kd = 1
 ·rw [if_pos h]
  have g:(d.kd == 1) = true:=by simp [h]
  clear h
  go_enter Tryz.func179,Tryz.ntmps179
  go_wp2_with fail
  go_ret
  exact ⟨rfl,by (repeat (first | exact Below.refl _ _ | refine Below.alloc ?_ (by first | omega | (simp; done) | (simp; omega)) _ | refine Below.setCell ?_ (by first | omega | (simp; done) | (simp; omega)) _ | refine Below.drew ?_))⟩
 ·rw [if_neg h]
  have g:(d.kd == 1) = false:=by simp [h]
  clear h
  go_enter Tryz.func179,Tryz.ntmps179
  go_wp2_with fail
  go_ret
  exact ⟨rfl,by (repeat (first | exact Below.refl _ _ | refine Below.alloc ?_ (by first | omega | (simp; done) | (simp; omega)) _ | refine Below.setCell ?_ (by first | omega | (simp; done) | (simp; omega)) _ | refine Below.drew ?_))⟩
set_option maxHeartbeats 2000000 in
set_option maxRecDepth 100000 in
theorem pchanged_any (A1:Option Addr) (n1 c1:Nat) (A:Option Addr) (n c:Nat) (clk ver:Int) (h0:0 ≤ ver) (h1:ver ≤ 1099511627776) (nv:Int) (hnv:min (ver + 1) 1099511627776 = nv) (w:World) :
  Calls Tryz.prog 122 #[.agg #[.slice A1 n1 c1,.slice A n c,.int .i64 clk,.int .i64 ver]] w fun e w' => e = .returned (.agg #[.slice A1 n1 c1,.slice A n c,.int .i64 clk,.int .i64 nv]) ∧ Below w.heap.size w w':=by
 have hB:Below w.heap.size w ((w.alloc (.cells #[.slice A1 n1 c1,.slice A n c,.int .i64 clk,.int .i64 ver] 25)).alloc (.cells #[.slice none 0 0,.slice none 0 0,.int .i64 0,.int .i64 0] 25)):=by (repeat (first | exact Below.refl _ _ | refine Below.alloc ?_ (by first | omega | (simp; done) | (simp; omega)) _ | refine Below.setCell ?_ (by first | omega | (simp; done) | (simp; omega)) _ | refine Below.drew ?_))
 have hP:=(Blok.new w 25 #[.slice A1 n1 c1,.slice A n c,.int .i64 clk,.int .i64 ver]).alloc (.cells #[.slice none 0 0,.slice none 0 0,.int .i64 0,.int .i64 0] 25)
 have hX:=Blok.new (w.alloc (.cells #[.slice A1 n1 c1,.slice A n c,.int .i64 clk,.int .i64 ver] 25)) 25 #[.slice none 0 0,.slice none 0 0,.int .i64 0,.int .i64 0]
 simp only [World.size_alloc] at hX
 have t0:IntKind.i64.wrap (ver + 1) = ver + 1:=by rw [IntWalk.i64_in _ (by omega)]
 subst hnv
 go_enter Tryz.func122,Tryz.ntmps122
 go_upto_region 1 with fail
 generalize (w.alloc (.cells #[.slice A1 n1 c1,.slice A n c,.int .i64 clk,.int .i64 ver] 25)).alloc (.cells #[.slice none 0 0,.slice none 0 0,.int .i64 0,.int .i64 0] 25) = w0 at *
 have p3:w0.cell? ⟨w.heap.size,3,none⟩ = some (.int .i64 ver):=hP.cell 3
 have f3:=hP.free 3
 have lt_p:=hP.lt
 go_upto_region 2 with fail
 generalize hnv:min (ver + 1) 1099511627776 = nv at *
 have hP2:=hP.set_ 3 (.int .i64 nv)
 have hX2:=hX.far (p:=⟨w.heap.size,3,none⟩) (by show w.heap.size + 1 ≠ w.heap.size; omega) (.int .i64 nv)
 have hB2:=hB.setCell (p:=⟨w.heap.size,3,none⟩) (Nat.le_refl _) (.int .i64 nv)
 clear p3 f3 lt_p hP hX hB t0
 generalize w0.setCell ⟨w.heap.size,3,none⟩ (.int .i64 nv) = w1 at *
 have p0:w1.cell? ⟨w.heap.size,0,none⟩ = some (.slice A1 n1 c1):=hP2.cell 0
 have p1:w1.cell? ⟨w.heap.size,1,none⟩ = some (.slice A n c):=hP2.cell 1
 have p2:w1.cell? ⟨w.heap.size,2,none⟩ = some (.int .i64 clk):=hP2.cell 2
 have p3:w1.cell? ⟨w.heap.size,3,none⟩ = some (.int .i64 nv):=hP2.cell 3
 have lt_p:=hP2.lt
 obtain ⟨r0,r1,r2,r3,lt_x⟩:=blok4 hX2
 obtain ⟨f_0,f_1,f_2,f_3⟩:=free4 hX2
 have HX:=Lib.hid hX2
 clear hX2
 go_wp2_with fail
 have hX:=HX.out
 have hB:=hB2
 clear r0 r1 r2 r3 p0 p1 p2 p3
 obtain ⟨hF,hWf,hgw⟩:=ret4 (show Blok _ _ _ #[_,_,_,_] from hX) hB (show w.heap.size ≤ (w.heap.size + 1) by first | exact Nat.le_refl _ | omega) (.slice A1 n1 c1) (.slice A n c) (.int .i64 clk) (.int .i64 nv)
 have hlF:=hF.lt
 generalize (((w1.setCell ⟨(w.heap.size + 1),0,none⟩ (.slice A1 n1 c1)).setCell ⟨(w.heap.size + 1),1,none⟩ (.slice A n c)).setCell ⟨(w.heap.size + 1),2,none⟩ (.int .i64 clk)).setCell ⟨(w.heap.size + 1),3,none⟩ (.int .i64 nv) = wf at *
 obtain ⟨r0,r1,r2,r3,_⟩:=blok4 hF
 refine bodyPost_ret (v:=.agg #[.slice A1 n1 c1,.slice A n c,.int .i64 clk,.int .i64 nv]) (by simp [results,Tryz.results122,go_sem,r0,r1,r2,r3,hlF]) rfl ?_
 exact ⟨by rw [hnv],hWf⟩
end Go.Proofs.YtjldgcebadojiaaGreatDoor
