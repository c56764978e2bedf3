/- Package ranges: compareWays. -/
import Derived.Test.YtjldgcebadojiaaGreatDoorGQ3
import Derived.Test.YtjldgcebadojiaaGreatDoorSlRg
import Derived.Test.YtjldgcebadojiaaGreatDoorGQ0
import Derived.StillTailTactics
import Derived.Deep.RegionHeld3
namespace Go.Proofs.YtjldgcebadojiaaGreatDoor.Kr
open Go.ChangeShapes Go.WideShapes Go.ChangeAt Go.RowKit Go.Sort
set_option linter.unusedSimpArgs false
set_option linter.unusedVariables false
def waysI (a b:Rg):Int:=orF [cmpI a.fr b.fr,cmpI a.tn b.tn]
set_option maxHeartbeats 1000000 in
set_option maxRecDepth 100000 in
theorem ways_any (a b:Rg) (w:World):Calls Tryz.prog 191 #[.agg #[.int .i64 a.fr,.int .i64 a.tn,.int .i64 a.st,.int .i64 a.en,.int .i64 a.ow],.agg #[.int .i64 b.fr,.int .i64 b.tn,.int .i64 b.st,.int .i64 b.en,.int .i64 b.ow]] w fun e w' => e = .returned (.int .i64 (waysI a b)) ∧ Below w.heap.size w w':=by
 obtain ⟨p,hp⟩:∃ p,cmpI a.fr b.fr = p:=⟨_,rfl⟩
 obtain ⟨q,hq⟩:∃ q,cmpI a.tn b.tn = q:=⟨_,rfl⟩
 have hfin:waysI a b = orF [p,q]:=by rw [← hp,← hq]; rfl
 have HP:=Lib.hid hp
 have HQ:=Lib.hid hq
 rw [hfin]
 clear hp hq hfin
 go_enter Tryz.func191,Tryz.ntmps191
 go_wp2_with fail
 refine wp_region_still_tail 10 (by kernel_rfl) (by kernel_rfl) ?_
 change wpStill _ _ (World.drew _) (fun a' => wpList _ _ _ _ a' (World.drew _)) _ _
 simp only [List.take_succ_cons,List.take_zero,List.drop_succ_cons,List.drop_zero]
 repeat still_step
 still_call ((HP.out ▸ cmp_any a.fr b.fr _).mono fun _ _ h => ⟨h.1,h.2.symm⟩)
 repeat still_step
 still_call ((HQ.out ▸ cmp_any a.tn b.tn _).mono fun _ _ h => ⟨h.1,h.2.symm⟩)
 refine wpStill_nil ?_
 have hB:Below w.heap.size w (((w.alloc (.cells #[.int .i64 a.fr,.int .i64 a.tn,.int .i64 a.st,.int .i64 a.en,.int .i64 a.ow] 36)).alloc (.cells #[.int .i64 b.fr,.int .i64 b.tn,.int .i64 b.st,.int .i64 b.en,.int .i64 b.ow] 36)).drew):=by (repeat (first | exact Below.refl _ _ | refine Below.alloc ?_ (by first | omega | (simp; done) | (simp; omega)) _ | refine Below.setCell ?_ (by first | omega | (simp; done) | (simp; omega)) _ | refine Below.drew ?_))
 have hs:=hB.size
 generalize (((w.alloc (.cells #[.int .i64 a.fr,.int .i64 a.tn,.int .i64 a.st,.int .i64 a.en,.int .i64 a.ow] 36)).alloc (.cells #[.int .i64 b.fr,.int .i64 b.tn,.int .i64 b.st,.int .i64 b.en,.int .i64 b.ow] 36)).drew) = w2 at *
 go_wp2_with fail
 have hX:=Blok.new w2 3 #[.int .i64 p,.int .i64 q]
 refine (or_any w2.heap.size 2 2 [p,q] _ rfl (by omega) (fun k hk => by
  have hc:=hX.cell k
  have hk2:k = 0 ∨ k = 1:=by omega
  rcases hk2 with rfl | rfl <;> exact hc)).mono ?_
 rintro e w3 ⟨rfl,rfl⟩
 go_wp2
 go_ret
 exact ⟨rfl,hB.alloc hs _⟩
def cmpR (a b:Rg):Int:=orF [waysI a b,cmpI a.st b.st]
set_option maxHeartbeats 2000000 in
set_option maxRecDepth 100000 in
theorem cmpR_any (a b:Rg) (w:World):Calls Tryz.prog 128 #[.agg #[.int .i64 a.fr,.int .i64 a.tn,.int .i64 a.st,.int .i64 a.en,.int .i64 a.ow],.agg #[.int .i64 b.fr,.int .i64 b.tn,.int .i64 b.st,.int .i64 b.en,.int .i64 b.ow]] w fun e w' => e = .returned (.int .i64 (cmpR a b)) ∧ Below w.heap.size w w':=by
 obtain ⟨p,hp⟩:∃ p,waysI a b = p:=⟨_,rfl⟩
 obtain ⟨q,hq⟩:∃ q,cmpI a.st b.st = q:=⟨_,rfl⟩
 have hfin:cmpR a b = orF [p,q]:=by rw [← hp,← hq]; rfl
 have HP:=Lib.hid hp
 have HQ:=Lib.hid hq
 rw [hfin]
 clear hp hq hfin
 go_enter Tryz.func128,Tryz.ntmps128
 go_wp2_with fail
 have hB:Below w.heap.size w ((w.alloc (.cells #[.int .i64 a.fr,.int .i64 a.tn,.int .i64 a.st,.int .i64 a.en,.int .i64 a.ow] 36)).alloc (.cells #[.int .i64 b.fr,.int .i64 b.tn,.int .i64 b.st,.int .i64 b.en,.int .i64 b.ow] 36)):=by (repeat (first | exact Below.refl _ _ | refine Below.alloc ?_ (by first | omega | (simp; done) | (simp; omega)) _ | refine Below.setCell ?_ (by first | omega | (simp; done) | (simp; omega)) _ | refine Below.drew ?_))
 have hXa:=(Blok.new w 36 #[.int .i64 a.fr,.int .i64 a.tn,.int .i64 a.st,.int .i64 a.en,.int .i64 a.ow]).alloc (.cells #[.int .i64 b.fr,.int .i64 b.tn,.int .i64 b.st,.int .i64 b.en,.int .i64 b.ow] 36)
 have hXb:=Blok.new (w.alloc (.cells #[.int .i64 a.fr,.int .i64 a.tn,.int .i64 a.st,.int .i64 a.en,.int .i64 a.ow] 36)) 36 #[.int .i64 b.fr,.int .i64 b.tn,.int .i64 b.st,.int .i64 b.en,.int .i64 b.ow]
 simp only [World.size_alloc] at hXb
 generalize ((w.alloc (.cells #[.int .i64 a.fr,.int .i64 a.tn,.int .i64 a.st,.int .i64 a.en,.int .i64 a.ow] 36)).alloc (.cells #[.int .i64 b.fr,.int .i64 b.tn,.int .i64 b.st,.int .i64 b.en,.int .i64 b.ow] 36)) = w2 at *
 have hs:=hB.size
 have hla:=hXa.lt
 have hlb:=hXb.lt
 have ha0:w2.cell? ⟨w.heap.size,0,none⟩ = some (.int .i64 a.fr):=hXa.cell 0
 have ha1:w2.cell? ⟨w.heap.size,1,none⟩ = some (.int .i64 a.tn):=hXa.cell 1
 have ha2:w2.cell? ⟨w.heap.size,2,none⟩ = some (.int .i64 a.st):=hXa.cell 2
 have ha3:w2.cell? ⟨w.heap.size,3,none⟩ = some (.int .i64 a.en):=hXa.cell 3
 have ha4:w2.cell? ⟨w.heap.size,4,none⟩ = some (.int .i64 a.ow):=hXa.cell 4
 have hb0:w2.cell? ⟨w.heap.size + 1,0,none⟩ = some (.int .i64 b.fr):=hXb.cell 0
 have hb1:w2.cell? ⟨w.heap.size + 1,1,none⟩ = some (.int .i64 b.tn):=hXb.cell 1
 have hb2:w2.cell? ⟨w.heap.size + 1,2,none⟩ = some (.int .i64 b.st):=hXb.cell 2
 have hb3:w2.cell? ⟨w.heap.size + 1,3,none⟩ = some (.int .i64 b.en):=hXb.cell 3
 have hb4:w2.cell? ⟨w.heap.size + 1,4,none⟩ = some (.int .i64 b.ow):=hXb.cell 4
 go_region_held3 (fun w' => w'.cell? ⟨w.heap.size,0,none⟩ = some (.int .i64 a.fr) ∧ w'.cell? ⟨w.heap.size,1,none⟩ = some (.int .i64 a.tn) ∧ w'.cell? ⟨w.heap.size,2,none⟩ = some (.int .i64 a.st) ∧ w'.cell? ⟨w.heap.size,3,none⟩ = some (.int .i64 a.en) ∧ w'.cell? ⟨w.heap.size,4,none⟩ = some (.int .i64 a.ow) ∧ w'.cell? ⟨w.heap.size + 1,0,none⟩ = some (.int .i64 b.fr) ∧ w'.cell? ⟨w.heap.size + 1,1,none⟩ = some (.int .i64 b.tn) ∧ w'.cell? ⟨w.heap.size + 1,2,none⟩ = some (.int .i64 b.st) ∧ w'.cell? ⟨w.heap.size + 1,3,none⟩ = some (.int .i64 b.en) ∧ w'.cell? ⟨w.heap.size + 1,4,none⟩ = some (.int .i64 b.ow))
  (first | go_keep | (refine ⟨?_,?_,?_,?_,?_,?_,?_,?_,?_,?_⟩ <;> first | assumption | (rw [hc _ _ (by simp; omega)]; assumption)))
  (first
   | (go_at_call 191; (with_reducible refine Calls.mono (HP.out ▸ ways_any a b _) ?_); rintro e w3 ⟨rfl,hb3⟩; obtain ⟨hc,hf⟩:=bcell hb3)
   | (go_at_call 119; (with_reducible refine Calls.mono (HQ.out ▸ cmp_any a.st b.st _) ?_); rintro e w3 ⟨rfl,rfl⟩)
   | (go_at_call 190; (with_reducible refine Calls.mono (or_any _ 2 2 [p,q] _ rfl (by omega) (fun k hk => by
      have hk2:k = 0 ∨ k = 1:=by omega
      rcases hk2 with rfl | rfl <;> simp)) ?_); rintro e w4 ⟨rfl,rfl⟩))
 go_wp2
 go_ret
 exact ⟨rfl,(hB.drew.trans (hb3.mono hs)).alloc (by have:=hb3.size; simp at this; omega) _⟩
theorem waysI_zero {a b:Rg}:waysI a b = 0 ↔ a.fr = b.fr ∧ a.tn = b.tn:=by
 unfold waysI orF
 split
 ·rename_i h
  rw [cmpI_zero] at h
  unfold orF
  split
  ·rename_i h2; rw [cmpI_zero] at h2; simp [h,h2,orF]
  ·rename_i h2; rw [cmpI_zero] at h2; constructor
   ·intro e; exact absurd (cmpI_zero.1 e) h2
   ·intro e; exact absurd e.2 h2
 ·rename_i h
  rw [cmpI_zero] at h
  constructor
  ·intro e; exact absurd (cmpI_zero.1 e) h
  ·intro e; exact absurd e.1 h
def ltR (a b:Rg):Prop:=a.fr < b.fr ∨ a.fr = b.fr ∧ (a.tn < b.tn ∨ a.tn = b.tn ∧ a.st < b.st)
theorem cmpI_spec (a b:Int):(a < b ∧ cmpI a b = -1) ∨ (a = b ∧ cmpI a b = 0) ∨ (b < a ∧ cmpI a b = 1):=by
 rcases Int.lt_trichotomy a b with h | h | h
 ·exact .inl ⟨h,cmpI_lt h⟩
 ·exact .inr (.inl ⟨h,cmpI_zero.2 h⟩)
 ·exact .inr (.inr ⟨h,cmpI_gt h⟩)
theorem cmpR_spec (a b:Rg):(ltR a b ∧ cmpR a b = -1) ∨ (a.fr = b.fr ∧ a.tn = b.tn ∧ a.st = b.st ∧ cmpR a b = 0) ∨ (ltR b a ∧ cmpR a b = 1):=by
 unfold cmpR waysI ltR
 rcases cmpI_spec a.fr b.fr with ⟨h1,e1⟩ | ⟨h1,e1⟩ | ⟨h1,e1⟩ <;> rcases cmpI_spec a.tn b.tn with ⟨h2,e2⟩ | ⟨h2,e2⟩ | ⟨h2,e2⟩ <;> rcases cmpI_spec a.st b.st with ⟨h3,e3⟩ | ⟨h3,e3⟩ | ⟨h3,e3⟩ <;>
  simp only [e1,e2,e3,orF] <;> simp <;> omega
def overR (a b:Rg):Bool:=decide (a.fr = b.fr ∧ a.tn = b.tn ∧ a.st < b.en ∧ b.st < a.en)
def sameR (a b:Rg):Bool:=decide (a.fr = b.fr ∧ a.tn = b.tn ∧ a.st = b.st)
theorem cmpR_zero {a b:Rg}:cmpR a b = 0 ↔ a.fr = b.fr ∧ a.tn = b.tn ∧ a.st = b.st:=by
 rcases cmpR_spec a b with ⟨h,e⟩ | ⟨h1,h2,h3,e⟩ | ⟨h,e⟩
 ·rw [e]; unfold ltR at h; constructor
  ·intro h'; omega
  ·intro h'; omega
 ·simp [h1,h2,h3,e]
 ·rw [e]; unfold ltR at h; constructor
  ·intro h'; omega
  ·intro h'; omega
set_option maxHeartbeats 1000000 in
set_option maxRecDepth 100000 in
theorem over_any (a b:Rg) (w:World):Calls Tryz.prog 129 #[.agg #[.int .i64 a.fr,.int .i64 a.tn,.int .i64 a.st,.int .i64 a.en,.int .i64 a.ow],.agg #[.int .i64 b.fr,.int .i64 b.tn,.int .i64 b.st,.int .i64 b.en,.int .i64 b.ow]] w fun e w' => e = .returned (.bool (overR a b)) ∧ Below w.heap.size w w':=by
 have hB:Below w.heap.size w ((w.alloc (.cells #[.int .i64 a.fr,.int .i64 a.tn,.int .i64 a.st,.int .i64 a.en,.int .i64 a.ow] 36)).alloc (.cells #[.int .i64 b.fr,.int .i64 b.tn,.int .i64 b.st,.int .i64 b.en,.int .i64 b.ow] 36)):=by (repeat (first | exact Below.refl _ _ | refine Below.alloc ?_ (by first | omega | (simp; done) | (simp; omega)) _ | refine Below.setCell ?_ (by first | omega | (simp; done) | (simp; omega)) _ | refine Below.drew ?_))
 have hXa:=(Blok.new w 36 #[.int .i64 a.fr,.int .i64 a.tn,.int .i64 a.st,.int .i64 a.en,.int .i64 a.ow]).alloc (.cells #[.int .i64 b.fr,.int .i64 b.tn,.int .i64 b.st,.int .i64 b.en,.int .i64 b.ow] 36)
 have hXb:=Blok.new (w.alloc (.cells #[.int .i64 a.fr,.int .i64 a.tn,.int .i64 a.st,.int .i64 a.en,.int .i64 a.ow] 36)) 36 #[.int .i64 b.fr,.int .i64 b.tn,.int .i64 b.st,.int .i64 b.en,.int .i64 b.ow]
 have hs:=hB.size
 simp only [World.size_alloc] at hXb
 by_cases h0:waysI a b = 0
 ·have h0':=waysI_zero.1 h0
  by_cases h1:a.st < b.en
  all_goals
   by_cases h2:b.st < a.en
   all_goals
    have hres:overR a b = (decide (a.st < b.en) && decide (b.st < a.en)):=by simp [overR,h0'.1,h0'.2]
    rw [hres]
    have H0:=Lib.hid h0
    clear h0 h0' hres
    go_enter Tryz.func129,Tryz.ntmps129
    go_wp2_with fail
    generalize ((w.alloc (.cells #[.int .i64 a.fr,.int .i64 a.tn,.int .i64 a.st,.int .i64 a.en,.int .i64 a.ow] 36)).alloc (.cells #[.int .i64 b.fr,.int .i64 b.tn,.int .i64 b.st,.int .i64 b.en,.int .i64 b.ow] 36)) = w2 at *
    refine (H0.out ▸ ways_any a b w2).mono ?_
    rintro e w3 ⟨rfl,hb3⟩
    replace hXa:=hXa.below hb3 hXa.lt
    replace hXb:=hXb.below hb3 hXb.lt
    have ha2:w3.cell? ⟨w.heap.size,2,none⟩ = some (.int .i64 a.st):=hXa.cell 2
    have ha3:w3.cell? ⟨w.heap.size,3,none⟩ = some (.int .i64 a.en):=hXa.cell 3
    have hb2:w3.cell? ⟨w.heap.size + 1,2,none⟩ = some (.int .i64 b.st):=hXb.cell 2
    have hb3':w3.cell? ⟨w.heap.size + 1,3,none⟩ = some (.int .i64 b.en):=hXb.cell 3
    replace hB:=hB.trans (hb3.mono hs)
    clear hXa hXb hb3
    go_wp2
    go_ret
    exact ⟨by simp [h1,h2],hB⟩
 ·have hz:(waysI a b == 0) = false:=by simpa using h0
  have hres:overR a b = false:=by
   have h3:=fun h => h0 (waysI_zero.2 h)
   simp only [overR,decide_eq_false_iff_not]
   intro h; exact h3 ⟨h.1,h.2.1⟩
  rw [hres]
  generalize hy:waysI a b = y at *
  have HY:=Lib.hid hy
  clear h0 hres hy
  go_enter Tryz.func129,Tryz.ntmps129
  go_wp2_with fail
  generalize ((w.alloc (.cells #[.int .i64 a.fr,.int .i64 a.tn,.int .i64 a.st,.int .i64 a.en,.int .i64 a.ow] 36)).alloc (.cells #[.int .i64 b.fr,.int .i64 b.tn,.int .i64 b.st,.int .i64 b.en,.int .i64 b.ow] 36)) = w2 at *
  refine (HY.out ▸ ways_any a b w2).mono ?_
  rintro e w3 ⟨rfl,hb3⟩
  replace hB:=hB.trans (hb3.mono hs)
  clear hXa hXb hb3
  go_wp2
  go_ret
  exact ⟨rfl,hB⟩
set_option maxHeartbeats 1000000 in
set_option maxRecDepth 100000 in
theorem begins1_any (x r:Rg) (g:Nat) (w:World) (hR:Blok w g 36 #[.int .i64 r.fr,.int .i64 r.tn,.int .i64 r.st,.int .i64 r.en,.int .i64 r.ow]):Calls Tryz.prog 253 #[.agg #[.int .i64 x.fr,.int .i64 x.tn,.int .i64 x.st,.int .i64 x.en,.int .i64 x.ow],.pointer (some ⟨g,0,none⟩)] w fun e w' => e = .returned (.bool (sameR x r)) ∧ Below w.heap.size w w':=by
 have hB:Below w.heap.size w (w.alloc (.cells #[.int .i64 x.fr,.int .i64 x.tn,.int .i64 x.st,.int .i64 x.en,.int .i64 x.ow] 36)):=by (repeat (first | exact Below.refl _ _ | refine Below.alloc ?_ (by first | omega | (simp; done) | (simp; omega)) _ | refine Below.setCell ?_ (by first | omega | (simp; done) | (simp; omega)) _ | refine Below.drew ?_))
 replace hR:=hR.alloc (.cells #[.int .i64 x.fr,.int .i64 x.tn,.int .i64 x.st,.int .i64 x.en,.int .i64 x.ow] 36)
 have r0:(w.alloc (.cells #[.int .i64 x.fr,.int .i64 x.tn,.int .i64 x.st,.int .i64 x.en,.int .i64 x.ow] 36)).cell? ⟨g,0,none⟩ = some (.int .i64 r.fr):=hR.cell 0
 have r1:(w.alloc (.cells #[.int .i64 x.fr,.int .i64 x.tn,.int .i64 x.st,.int .i64 x.en,.int .i64 x.ow] 36)).cell? ⟨g,1,none⟩ = some (.int .i64 r.tn):=hR.cell 1
 have r2:(w.alloc (.cells #[.int .i64 x.fr,.int .i64 x.tn,.int .i64 x.st,.int .i64 x.en,.int .i64 x.ow] 36)).cell? ⟨g,2,none⟩ = some (.int .i64 r.st):=hR.cell 2
 have r3:(w.alloc (.cells #[.int .i64 x.fr,.int .i64 x.tn,.int .i64 x.st,.int .i64 x.en,.int .i64 x.ow] 36)).cell? ⟨g,3,none⟩ = some (.int .i64 r.en):=hR.cell 3
 have r4:(w.alloc (.cells #[.int .i64 x.fr,.int .i64 x.tn,.int .i64 x.st,.int .i64 x.en,.int .i64 x.ow] 36)).cell? ⟨g,4,none⟩ = some (.int .i64 r.ow):=hR.cell 4
 have hx:(cmpR x r == 0) = sameR x r:=by
  rw [Bool.eq_iff_iff,beq_iff_eq,cmpR_zero]
  simp [sameR]
 have HX:=Lib.hid hx
 clear hR hx
 generalize hy:cmpR x r = y at *
 have HY:=Lib.hid hy
 clear hy
 go_enter Tryz.func253,Tryz.ntmps253
 go_wp2_with fail
 generalize w.alloc (.cells #[.int .i64 x.fr,.int .i64 x.tn,.int .i64 x.st,.int .i64 x.en,.int .i64 x.ow] 36) = w2 at *
 have hs:=hB.size
 refine (HY.out ▸ cmpR_any x r w2).mono ?_
 rintro e w3 ⟨rfl,hb3⟩
 replace hB:=hB.trans (hb3.mono hs)
 clear hb3 r0 r1 r2 r3 r4
 go_wp2
 go_ret
 exact ⟨by rw [← HX.out]; rfl,hB⟩
set_option maxHeartbeats 1000000 in
set_option maxRecDepth 100000 in
theorem may1_any (x r:Rg) (g:Nat) (w:World) (hR:Blok w g 36 #[.int .i64 r.fr,.int .i64 r.tn,.int .i64 r.st,.int .i64 r.en,.int .i64 r.ow]):Calls Tryz.prog 251 #[.agg #[.int .i64 x.fr,.int .i64 x.tn,.int .i64 x.st,.int .i64 x.en,.int .i64 x.ow],.pointer (some ⟨g,0,none⟩)] w fun e w' => e = .returned (.bool (overR x r)) ∧ Below w.heap.size w w':=by
 have hB:Below w.heap.size w (w.alloc (.cells #[.int .i64 x.fr,.int .i64 x.tn,.int .i64 x.st,.int .i64 x.en,.int .i64 x.ow] 36)):=by (repeat (first | exact Below.refl _ _ | refine Below.alloc ?_ (by first | omega | (simp; done) | (simp; omega)) _ | refine Below.setCell ?_ (by first | omega | (simp; done) | (simp; omega)) _ | refine Below.drew ?_))
 replace hR:=hR.alloc (.cells #[.int .i64 x.fr,.int .i64 x.tn,.int .i64 x.st,.int .i64 x.en,.int .i64 x.ow] 36)
 have r0:(w.alloc (.cells #[.int .i64 x.fr,.int .i64 x.tn,.int .i64 x.st,.int .i64 x.en,.int .i64 x.ow] 36)).cell? ⟨g,0,none⟩ = some (.int .i64 r.fr):=hR.cell 0
 have r1:(w.alloc (.cells #[.int .i64 x.fr,.int .i64 x.tn,.int .i64 x.st,.int .i64 x.en,.int .i64 x.ow] 36)).cell? ⟨g,1,none⟩ = some (.int .i64 r.tn):=hR.cell 1
 have r2:(w.alloc (.cells #[.int .i64 x.fr,.int .i64 x.tn,.int .i64 x.st,.int .i64 x.en,.int .i64 x.ow] 36)).cell? ⟨g,2,none⟩ = some (.int .i64 r.st):=hR.cell 2
 have r3:(w.alloc (.cells #[.int .i64 x.fr,.int .i64 x.tn,.int .i64 x.st,.int .i64 x.en,.int .i64 x.ow] 36)).cell? ⟨g,3,none⟩ = some (.int .i64 r.en):=hR.cell 3
 have r4:(w.alloc (.cells #[.int .i64 x.fr,.int .i64 x.tn,.int .i64 x.st,.int .i64 x.en,.int .i64 x.ow] 36)).cell? ⟨g,4,none⟩ = some (.int .i64 r.ow):=hR.cell 4
 clear hR
 generalize hy:overR x r = y at *
 have HY:=Lib.hid hy
 clear hy
 go_enter Tryz.func251,Tryz.ntmps251
 go_wp2_with fail
 generalize w.alloc (.cells #[.int .i64 x.fr,.int .i64 x.tn,.int .i64 x.st,.int .i64 x.en,.int .i64 x.ow] 36) = w2 at *
 have hs:=hB.size
 refine (HY.out ▸ over_any x r w2).mono ?_
 rintro e w3 ⟨rfl,hb3⟩
 replace hB:=hB.trans (hb3.mono hs)
 clear hb3 r0 r1 r2 r3 r4
 go_wp2
 go_ret
 exact ⟨rfl,hB⟩
set_option maxRecDepth 100000 in
theorem expire1_any (x:Rg) (now:Int) (g:Nat) (w:World) (hR:Blok w g 3 #[.int .i64 now]):Calls Tryz.prog 189 #[.agg #[.int .i64 x.fr,.int .i64 x.tn,.int .i64 x.st,.int .i64 x.en,.int .i64 x.ow],.pointer (some ⟨g,0,none⟩)] w fun e w' => e = .returned (.bool (decide (x.en ≤ now))) ∧ Below w.heap.size w w':=by
 have r0:w.cell? ⟨g,0,none⟩ = some (.int .i64 now):=hR.cell 0
 have hl:=hR.lt
 clear hR
 go_enter Tryz.func189,Tryz.ntmps189
 go_wp2
 all_goals go_ret
 all_goals exact ⟨rfl,by (repeat (first | exact Below.refl _ _ | refine Below.alloc ?_ (by first | omega | (simp; done) | (simp; omega)) _ | refine Below.setCell ?_ (by first | omega | (simp; done) | (simp; omega)) _ | refine Below.drew ?_))⟩
theorem pred_begins (r:Rg) (g:Nat) (row:Option Nat) (w:World) (hR:Blok w g 36 #[.int .i64 r.fr,.int .i64 r.tn,.int .i64 r.st,.int .i64 r.en,.int .i64 r.ow]) (hr:row ≠ some g):PredRg 253 #[.pointer (some ⟨g,0,none⟩)] row w (fun x => sameR x r):=
 ⟨enter_run Tryz.func253 rfl rfl,fun w' hg x => begins1_any x r g w' (hR.grown hg (fun e => hr e.symm))⟩
theorem pred_may (r:Rg) (g:Nat) (row:Option Nat) (w:World) (hR:Blok w g 36 #[.int .i64 r.fr,.int .i64 r.tn,.int .i64 r.st,.int .i64 r.en,.int .i64 r.ow]) (hr:row ≠ some g):PredRg 251 #[.pointer (some ⟨g,0,none⟩)] row w (fun x => overR x r):=
 ⟨enter_run Tryz.func251 rfl rfl,fun w' hg x => may1_any x r g w' (hR.grown hg (fun e => hr e.symm))⟩
theorem pred_expire (now:Int) (g:Nat) (row:Option Nat) (w:World) (hR:Blok w g 3 #[.int .i64 now]) (hr:row ≠ some g):PredRg 189 #[.pointer (some ⟨g,0,none⟩)] row w (fun x => decide (x.en ≤ now)):=
 ⟨enter_run Tryz.func189 rfl rfl,fun w' hg x => expire1_any x now g w' (hR.grown hg (fun e => hr e.symm))⟩
theorem cmp_ranges (t:Rg) (w:World):CmpRg 128 #[] t w (fun x => cmpR x t):=
 ⟨enter_run Tryz.func128 rfl rfl,fun w' _ x => cmpR_any x t w'⟩
end Go.Proofs.YtjldgcebadojiaaGreatDoor.Kr
