/- Package contacts: Compare, overlap, has, the closures. No condition. -/
import Derived.Test.YtolaabllhibkdaaGreatGA
import Derived.Test.YtolaabllhibkdaaGreatGQ
import Derived.Test.YtolaabllhibkdaaGreatCheck
import Derived.Test.YtolaabllhibkdaaGreatMapIB
import Derived.StillTailTactics
import Derived.Deep.RegionHeld3
namespace Go.Proofs.YtolaabllhibkdaaGreat.Kc
open Go.ChangeShapes Go.WideShapes Go.ChangeAt Go.RowKit Go.Sort
set_option linter.unusedSimpArgs false
set_option linter.unusedVariables false
def cmpC (a b:Co):Int:=orF [cmpI a.fr b.fr,cmpI a.tn b.tn,cmpI a.st b.st,cmpI a.id b.id]
set_option maxHeartbeats 2000000 in
set_option maxRecDepth 100000 in
theorem cmpC_any (a b:Co) (w:World):Calls Tryz.prog 65 #[.agg #[.int .i64 a.id,.int .i64 a.fr,.int .i64 a.tn,.int .i64 a.st,.int .i64 a.en,.int .i64 a.rt],.agg #[.int .i64 b.id,.int .i64 b.fr,.int .i64 b.tn,.int .i64 b.st,.int .i64 b.en,.int .i64 b.rt]] w fun e w' => e = .returned (.int .i64 (cmpC a b)) ∧ Below w.heap.size w w':=by
 obtain ⟨p,hp⟩:∃ p,cmpI a.fr b.fr = p:=⟨_,rfl⟩
 obtain ⟨q,hq⟩:∃ q,cmpI a.tn b.tn = q:=⟨_,rfl⟩
 obtain ⟨r,hr⟩:∃ r,cmpI a.st b.st = r:=⟨_,rfl⟩
 obtain ⟨s,hs⟩:∃ s,cmpI a.id b.id = s:=⟨_,rfl⟩
 have hfin:cmpC a b = orF [p,q,r,s]:=by rw [← hp,← hq,← hr,← hs]; rfl
 have HP:=Lib.hid hp
 have HQ:=Lib.hid hq
 have HR:=Lib.hid hr
 have HS:=Lib.hid hs
 rw [hfin]
 clear hp hq hr hs hfin
 go_enter Tryz.func65,Tryz.ntmps65
 go_wp2_with fail
 refine wp_region_still_tail 20 (by kernel_rfl) (by kernel_rfl) ?_
 change wpStill _ _ (World.drew _) (fun a' => wpList _ _ _ _ a' (World.drew _)) _ _
 simp only [List.take_succ_cons,List.take_zero,List.drop_succ_cons,List.drop_zero]
 repeat still_step
 still_call ((HP.out ▸ cmp_any a.fr b.fr _).mono fun _ _ h => ⟨h.1,h.2.symm⟩)
 repeat still_step
 still_call ((HQ.out ▸ cmp_any a.tn b.tn _).mono fun _ _ h => ⟨h.1,h.2.symm⟩)
 repeat still_step
 still_call ((HR.out ▸ cmp_any a.st b.st _).mono fun _ _ h => ⟨h.1,h.2.symm⟩)
 repeat still_step
 still_call ((HS.out ▸ cmp_any a.id b.id _).mono fun _ _ h => ⟨h.1,h.2.symm⟩)
 refine wpStill_nil ?_
 have hB:Below w.heap.size w (((w.alloc (.cells #[.int .i64 a.id,.int .i64 a.fr,.int .i64 a.tn,.int .i64 a.st,.int .i64 a.en,.int .i64 a.rt] 33)).alloc (.cells #[.int .i64 b.id,.int .i64 b.fr,.int .i64 b.tn,.int .i64 b.st,.int .i64 b.en,.int .i64 b.rt] 33)).drew):=by (repeat (first | exact Below.refl _ _ | refine Below.alloc ?_ (by first | omega | (simp; done) | (simp; omega)) _ | refine Below.setCell ?_ (by first | omega | (simp; done) | (simp; omega)) _ | refine Below.drew ?_))
 have hs:=hB.size
 generalize (((w.alloc (.cells #[.int .i64 a.id,.int .i64 a.fr,.int .i64 a.tn,.int .i64 a.st,.int .i64 a.en,.int .i64 a.rt] 33)).alloc (.cells #[.int .i64 b.id,.int .i64 b.fr,.int .i64 b.tn,.int .i64 b.st,.int .i64 b.en,.int .i64 b.rt] 33)).drew) = w2 at *
 go_wp2_with fail
 have hX:=Blok.new w2 3 #[.int .i64 p,.int .i64 q,.int .i64 r,.int .i64 s]
 refine (or_any w2.heap.size 4 4 [p,q,r,s] _ rfl (by omega) (fun k hk => by
  have hc:=hX.cell k
  have hk2:k = 0 ∨ k = 1 ∨ k = 2 ∨ k = 3:=by omega
  rcases hk2 with rfl | rfl | rfl | rfl <;> exact hc)).mono ?_
 rintro e w3 ⟨rfl,rfl⟩
 go_wp2
 go_ret
 exact ⟨rfl,hB.alloc hs _⟩
def ltC (a b:Co):Prop:=a.fr < b.fr ∨ a.fr = b.fr ∧ (a.tn < b.tn ∨ a.tn = b.tn ∧ (a.st < b.st ∨ a.st = b.st ∧ a.id < b.id))
theorem cmpI_spec (a b:Int):(a < b ∧ cmpI a b = -1) ∨ (a = b ∧ cmpI a b = 0) ∨ (b < a ∧ cmpI a b = 1):=by
 rcases Int.lt_trichotomy a b with h | h | h
 ·exact .inl ⟨h,cmpI_lt h⟩
 ·exact .inr (.inl ⟨h,cmpI_zero.2 h⟩)
 ·exact .inr (.inr ⟨h,cmpI_gt h⟩)
theorem cmpC_spec (a b:Co):(ltC a b ∧ cmpC a b = -1) ∨ (a.fr = b.fr ∧ a.tn = b.tn ∧ a.st = b.st ∧ a.id = b.id ∧ cmpC a b = 0) ∨ (ltC b a ∧ cmpC a b = 1):=by
 unfold cmpC ltC
 rcases cmpI_spec a.fr b.fr with ⟨h1,e1⟩ | ⟨h1,e1⟩ | ⟨h1,e1⟩ <;> rcases cmpI_spec a.tn b.tn with ⟨h2,e2⟩ | ⟨h2,e2⟩ | ⟨h2,e2⟩ <;> rcases cmpI_spec a.st b.st with ⟨h3,e3⟩ | ⟨h3,e3⟩ | ⟨h3,e3⟩ <;> rcases cmpI_spec a.id b.id with ⟨h4,e4⟩ | ⟨h4,e4⟩ | ⟨h4,e4⟩ <;>
  simp only [e1,e2,e3,e4,orF] <;> simp <;> omega
def overC (a b:Co):Bool:=decide (a.fr = b.fr ∧ a.tn = b.tn ∧ a.st < b.en ∧ b.st < a.en)
set_option maxHeartbeats 2000000 in
set_option maxRecDepth 100000 in
theorem overC_any (a b:Co) (w:World):Calls Tryz.prog 66 #[.agg #[.int .i64 a.id,.int .i64 a.fr,.int .i64 a.tn,.int .i64 a.st,.int .i64 a.en,.int .i64 a.rt],.agg #[.int .i64 b.id,.int .i64 b.fr,.int .i64 b.tn,.int .i64 b.st,.int .i64 b.en,.int .i64 b.rt]] w fun e w' => e = .returned (.bool (overC a b)) ∧ Below w.heap.size w w':=by
 obtain ⟨b1,e1⟩:∃ t,(a.fr == b.fr) = t:=⟨_,rfl⟩
 obtain ⟨b2,e2⟩:∃ t,(a.tn == b.tn) = t:=⟨_,rfl⟩
 obtain ⟨b3,e3⟩:∃ t,decide (a.st < b.en) = t:=⟨_,rfl⟩
 obtain ⟨b4,e4⟩:∃ t,decide (b.st < a.en) = t:=⟨_,rfl⟩
 have hres:overC a b = (b1 && (b2 && (b3 && b4))):=by rw [← e1,← e2,← e3,← e4]; unfold overC; rw [Bool.eq_iff_iff]; simp
 rw [hres]
 clear hres
 cases b1 <;> cases b2 <;> cases b3 <;> cases b4
 all_goals
  go_enter Tryz.func66,Tryz.ntmps66
  go_wp2
  go_ret
  exact ⟨rfl,by (repeat (first | exact Below.refl _ _ | refine Below.alloc ?_ (by first | omega | (simp; done) | (simp; omega)) _ | refine Below.setCell ?_ (by first | omega | (simp; done) | (simp; omega)) _ | refine Below.drew ?_))⟩
set_option maxRecDepth 100000 in
theorem has1_any (x:Co) (id:Int) (g:Nat) (w:World) (hR:Blok w g 3 #[.int .i64 id]):Calls Tryz.prog 93 #[.agg #[.int .i64 x.id,.int .i64 x.fr,.int .i64 x.tn,.int .i64 x.st,.int .i64 x.en,.int .i64 x.rt],.pointer (some ⟨g,0,none⟩)] w fun e w' => e = .returned (.bool (x.id == id)) ∧ Below w.heap.size w w':=by
 have r0:w.cell? ⟨g,0,none⟩ = some (.int .i64 id):=hR.cell 0
 have hl:=hR.lt
 clear hR
 go_enter Tryz.func93,Tryz.ntmps93
 go_wp2
 all_goals go_ret
 all_goals exact ⟨rfl,by (repeat (first | exact Below.refl _ _ | refine Below.alloc ?_ (by first | omega | (simp; done) | (simp; omega)) _ | refine Below.setCell ?_ (by first | omega | (simp; done) | (simp; omega)) _ | refine Below.drew ?_))⟩
set_option maxRecDepth 100000 in
theorem has_any (id:Int) (w:World):Calls Tryz.prog 63 #[.int .i64 id] w fun e w' => ∃ g,e = .returned (.func (.func 93) #[] #[.pointer (some ⟨g,0,none⟩)]) ∧ Blok w' g 3 #[.int .i64 id] ∧ w.heap.size ≤ g ∧ Below w.heap.size w w':=by
 go_enter Tryz.func63,Tryz.ntmps63
 go_wp2
 go_ret
 exact ⟨w.heap.size,rfl,Blok.new w _ _,Nat.le_refl _,by (repeat (first | exact Below.refl _ _ | refine Below.alloc ?_ (by first | omega | (simp; done) | (simp; omega)) _ | refine Below.setCell ?_ (by first | omega | (simp; done) | (simp; omega)) _ | refine Below.drew ?_))⟩
set_option maxHeartbeats 1000000 in
set_option maxRecDepth 100000 in
theorem mayC1_any (x r:Co) (g:Nat) (w:World) (hR:Blok w g 33 #[.int .i64 r.id,.int .i64 r.fr,.int .i64 r.tn,.int .i64 r.st,.int .i64 r.en,.int .i64 r.rt]):Calls Tryz.prog 151 #[.agg #[.int .i64 x.id,.int .i64 x.fr,.int .i64 x.tn,.int .i64 x.st,.int .i64 x.en,.int .i64 x.rt],.pointer (some ⟨g,0,none⟩)] w fun e w' => e = .returned (.bool (overC x r)) ∧ Below w.heap.size w w':=by
 have hB:Below w.heap.size w (w.alloc (.cells #[.int .i64 x.id,.int .i64 x.fr,.int .i64 x.tn,.int .i64 x.st,.int .i64 x.en,.int .i64 x.rt] 33)):=by (repeat (first | exact Below.refl _ _ | refine Below.alloc ?_ (by first | omega | (simp; done) | (simp; omega)) _ | refine Below.setCell ?_ (by first | omega | (simp; done) | (simp; omega)) _ | refine Below.drew ?_))
 replace hR:=hR.alloc (.cells #[.int .i64 x.id,.int .i64 x.fr,.int .i64 x.tn,.int .i64 x.st,.int .i64 x.en,.int .i64 x.rt] 33)
 have hX:=Blok.new w 33 #[.int .i64 x.id,.int .i64 x.fr,.int .i64 x.tn,.int .i64 x.st,.int .i64 x.en,.int .i64 x.rt]
 have hl:=hR.lt
 have r0:(w.alloc (.cells #[.int .i64 x.id,.int .i64 x.fr,.int .i64 x.tn,.int .i64 x.st,.int .i64 x.en,.int .i64 x.rt] 33)).cell? ⟨g,0,none⟩ = some (.int .i64 r.id):=hR.cell 0
 have r1:(w.alloc (.cells #[.int .i64 x.id,.int .i64 x.fr,.int .i64 x.tn,.int .i64 x.st,.int .i64 x.en,.int .i64 x.rt] 33)).cell? ⟨g,1,none⟩ = some (.int .i64 r.fr):=hR.cell 1
 have r2:(w.alloc (.cells #[.int .i64 x.id,.int .i64 x.fr,.int .i64 x.tn,.int .i64 x.st,.int .i64 x.en,.int .i64 x.rt] 33)).cell? ⟨g,2,none⟩ = some (.int .i64 r.tn):=hR.cell 2
 have r3:(w.alloc (.cells #[.int .i64 x.id,.int .i64 x.fr,.int .i64 x.tn,.int .i64 x.st,.int .i64 x.en,.int .i64 x.rt] 33)).cell? ⟨g,3,none⟩ = some (.int .i64 r.st):=hR.cell 3
 have r4:(w.alloc (.cells #[.int .i64 x.id,.int .i64 x.fr,.int .i64 x.tn,.int .i64 x.st,.int .i64 x.en,.int .i64 x.rt] 33)).cell? ⟨g,4,none⟩ = some (.int .i64 r.en):=hR.cell 4
 have r5:(w.alloc (.cells #[.int .i64 x.id,.int .i64 x.fr,.int .i64 x.tn,.int .i64 x.st,.int .i64 x.en,.int .i64 x.rt] 33)).cell? ⟨g,5,none⟩ = some (.int .i64 r.rt):=hR.cell 5
 clear hR
 generalize hy:overC x r = y at *
 have HY:=Lib.hid hy
 clear hy
 go_enter Tryz.func151,Tryz.ntmps151
 go_wp2_with fail
 generalize w.alloc (.cells #[.int .i64 x.id,.int .i64 x.fr,.int .i64 x.tn,.int .i64 x.st,.int .i64 x.en,.int .i64 x.rt] 33) = w2 at *
 have hs:=hB.size
 refine (HY.out ▸ overC_any x r w2).mono ?_
 rintro e w3 ⟨rfl,hb3⟩
 replace hB:=hB.trans (hb3.mono hs)
 clear hb3 r0 r1 r2 r3 r4 r5 hX
 go_wp2
 go_ret
 exact ⟨rfl,hB⟩
theorem pred_has (id:Int) (g:Nat) (row:Option Nat) (w:World) (hR:Blok w g 3 #[.int .i64 id]) (hr:row ≠ some g):PredCo 93 #[.pointer (some ⟨g,0,none⟩)] row w (fun x => x.id == id):=
 ⟨enter_run Tryz.func93 rfl rfl,fun w' hg x => has1_any x id g w' (hR.grown hg (fun e => hr e.symm))⟩
theorem pred_mayC (r:Co) (g:Nat) (row:Option Nat) (w:World) (hR:Blok w g 33 #[.int .i64 r.id,.int .i64 r.fr,.int .i64 r.tn,.int .i64 r.st,.int .i64 r.en,.int .i64 r.rt]) (hr:row ≠ some g):PredCo 151 #[.pointer (some ⟨g,0,none⟩)] row w (fun x => overC x r):=
 ⟨enter_run Tryz.func151 rfl rfl,fun w' hg x => mayC1_any x r g w' (hR.grown hg (fun e => hr e.symm))⟩
theorem cmp_contacts (t:Co) (w:World):CmpCo 65 #[] t w (fun x => cmpC x t):=
 ⟨enter_run Tryz.func65 rfl rfl,fun w' _ x => cmpC_any x t w'⟩
end Go.Proofs.YtolaabllhibkdaaGreat.Kc
