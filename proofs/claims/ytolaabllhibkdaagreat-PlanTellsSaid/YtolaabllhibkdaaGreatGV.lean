/- Several texts of mine in one: Ref07c, Ref07d. No condition. -/
import Derived.Test.YtolaabllhibkdaaGreatRef07b
import Derived.Test.YtolaabllhibkdaaGreatGU
import Derived.Test.YtolaabllhibkdaaGreatGH

/- The document's own ranges: Change, Delete. -/
namespace Go.Proofs.YtolaabllhibkdaaGreat.Kr
open Go.ChangeShapes Go.WideShapes Go.ChangeAt Go.RowKit Go.Sort
set_option linter.unusedSimpArgs false
set_option linter.unusedVariables false
theorem plR_lt {d:List Rg} {r:Rg} {k:Nat} (h:plR d r = some k):k < d.length:=by
 unfold plR at h
 rw [List.findIdx?_eq_some_iff_getElem] at h
 exact h.1
def chgRl (d:List Rg) (r:Rg):List Rg:=if inB r.ow 0 2147483647 = true then (match plR d r with | some k => d.set k (withOw (gRg d k) r.ow) | none => d) else d
def chgRq (d:List Rg) (r:Rg):Int:=if inB r.ow 0 2147483647 = true then (match plR d r with | some _ => 0 | none => 6) else 1
set_option maxHeartbeats 4000000 in
set_option maxRecDepth 100000 in
theorem rchange7_any (A:Option Addr) (n c:Nat) (d:List Rg) (r:Rg) (w:World) (hd:d.length = n) (hn:n ≤ 1000000) (h:Sl w w.heap.size 5 A n c (flatRg d)) (l:List Rg) (hl:chgRl d r = l) (q:Int) (hq:chgRq d r = q) :
  Calls Tryz.prog 54 #[.slice A n c,.agg #[.int .i64 r.fr,.int .i64 r.tn,.int .i64 r.st,.int .i64 r.en,.int .i64 r.ow]] w fun e w' => ∃ v,e = .returned (.tuple #[v,.int .i64 q]) ∧ w'.ownsRow w.heap.size 35 5 v n (flatRg l) ∧ Below w.heap.size w w':=by
 have hB:Below w.heap.size w (w.alloc (.cells #[.int .i64 r.fr,.int .i64 r.tn,.int .i64 r.st,.int .i64 r.en,.int .i64 r.ow] 35)):=by (repeat (first | exact Below.refl _ _ | refine Below.alloc ?_ (by first | omega | (simp; done) | (simp; omega)) _ | refine Below.setCell ?_ (by first | omega | (simp; done) | (simp; omega)) _ | refine Below.drew ?_))
 have hX:=Blok.new w 35 #[.int .i64 r.fr,.int .i64 r.tn,.int .i64 r.st,.int .i64 r.en,.int .i64 r.ow]
 have hs:=hB.size
 have HD:=Lib.hid hd
 have HL:=Lib.hid (h.up hB)
 have HLL:=Lib.hid hl
 have HQQ:=Lib.hid hq
 clear hd h hl hq
 go_enter Tryz.func54,Tryz.ntmps54
 go_upto_region 1 with fail
 generalize w.alloc (.cells #[.int .i64 r.fr,.int .i64 r.tn,.int .i64 r.st,.int .i64 r.en,.int .i64 r.ow] 35) = w1 at *
 go_wp2_with fail
 refine (rcopy7_any A n c d w1 HD.out hn HL.out).mono ?_
 rintro e w2 ⟨v,rfl,hown,hb⟩
 replace hown:=own_down (base':=w.heap.size) hown hs
 have HL2:=Lib.hid (HL.out.up hb)
 replace hX:=hX.below hb hX.lt
 replace hB:=hB.trans (hb.mono hs)
 replace hs:=hB.size
 clear hb
 obtain ⟨Av,cv,rfl⟩:=slice_of_own hown
 have x0:w2.cell? ⟨w.heap.size,0,none⟩ = some (.int .i64 r.fr):=hX.cell 0
 have x1:w2.cell? ⟨w.heap.size,1,none⟩ = some (.int .i64 r.tn):=hX.cell 1
 have x2:w2.cell? ⟨w.heap.size,2,none⟩ = some (.int .i64 r.st):=hX.cell 2
 have x3:w2.cell? ⟨w.heap.size,3,none⟩ = some (.int .i64 r.en):=hX.cell 3
 have x4:w2.cell? ⟨w.heap.size,4,none⟩ = some (.int .i64 r.ow):=hX.cell 4
 have lt_x:=hX.lt
 by_cases h1:r.ow < 0
 ·have g1:decide (r.ow < 0) = true:=decide_eq_true h1
  have HV:Hid (l = d ∧ q = 1):=by
   have hb:inB r.ow 0 2147483647 = false:=by unfold inB; exact decide_eq_false (by omega)
   exact ⟨by rw [← HLL.out]; unfold chgRl; rw [if_neg (by rw [hb]; decide)],by rw [← HQQ.out]; unfold chgRq; rw [if_neg (by rw [hb]; decide)]⟩
  clear h1
  go_wp2_with fail
  go_ret2
  exact ⟨_,by rw [HV.out.2]; rfl,by rw [HV.out.1]; exact hown,hB⟩
 have g1:decide (r.ow < 0) = false:=decide_eq_false h1
 by_cases h2:r.ow > 2147483647
 ·have g2:decide (r.ow > 2147483647) = true:=decide_eq_true h2
  have HV:Hid (l = d ∧ q = 1):=by
   have hb:inB r.ow 0 2147483647 = false:=by unfold inB; exact decide_eq_false (by omega)
   exact ⟨by rw [← HLL.out]; unfold chgRl; rw [if_neg (by rw [hb]; decide)],by rw [← HQQ.out]; unfold chgRq; rw [if_neg (by rw [hb]; decide)]⟩
  clear h1 h2
  go_wp2_with fail
  go_ret2
  exact ⟨_,by rw [HV.out.2]; rfl,by rw [HV.out.1]; exact hown,hB⟩
 have g2:decide (r.ow > 2147483647) = false:=decide_eq_false h2
 have HIN:Hid (inB r.ow 0 2147483647 = true):=by show inB r.ow 0 2147483647 = true; unfold inB; exact decide_eq_true (by omega)
 clear h1 h2
 obtain ⟨oo,hoo⟩:∃ o,plR d r = o:=⟨_,rfl⟩
 have HOO:=Lib.hid hoo
 go_wp2_with fail
 clear x0 x1 x2 x3 x4 lt_x hoo
 refine (rplace_any A n c d r w2 HD.out hn HL2.out oo HOO.out).mono ?_
 rintro e w3 ⟨rfl,hb⟩
 replace hown:=own_below hown hb
 replace hX:=hX.below hb hX.lt
 replace hB:=hB.trans (hb.mono hs)
 replace hs:=hB.size
 clear hb
 cases oo with
 | none =>
  have HV:Hid (l = d ∧ q = 6):=⟨by rw [← HLL.out]; unfold chgRl; rw [if_pos HIN.out,HOO.out],by rw [← HQQ.out]; unfold chgRq; rw [if_pos HIN.out,HOO.out]⟩
  have g3:decide (plV none < 0) = true:=by decide
  dsimp only [plV]
  go_wp2_with fail
  go_ret2
  exact ⟨_,by rw [HV.out.2]; rfl,by rw [HV.out.1]; exact hown,hB⟩
 | some k =>
  have hkn:k < n:=by rw [← HD.out]; exact plR_lt HOO.out
  have HV:Hid (l = d.set k (withOw (gRg d k) r.ow) ∧ q = 0):=⟨by rw [← HLL.out]; unfold chgRl; rw [if_pos HIN.out,HOO.out],by rw [← HQQ.out]; unfold chgRq; rw [if_pos HIN.out,HOO.out]⟩
  dsimp only [plV]
  have g3:decide ((k:Int) < 0) = false:=decide_eq_false (by omega)
  obtain ⟨g5,c5,hA,hnc5,hcm5,hgb5,hgl5⟩:=own_at hown (by omega)
  unfold maxLen at hcm5
  injection hA with hA _ hcc
  subst hA hcc
  have hii:(0:Int) ≤ (k:Int):=by omega
  have hinI:(k:Int) < (n:Int):=by omega
  obtain ⟨c0,c1,c2,c3,c4⟩:=ownRg_at hown HD.out hkn
  have hf4:=hown.frozenAt (k * 5 + 4)
  obtain ⟨hst,hgr⟩:=hown.stored (k * 5 + 4) (.int .i64 r.ow)
  rw [flatRg_ow d k r.ow (by rw [HD.out]; exact hkn)] at hst
  have y4:w3.cell? ⟨w.heap.size,4,none⟩ = some (.int .i64 r.ow):=hX.cell 4
  have lt_x:=hX.lt
  go_wp2_with fail
  go_ret2
  exact ⟨_,by rw [HV.out.2]; rfl,by rw [HV.out.1]; exact hst,Below.grown hB hgr hs (fun k hk => by simp at hk; omega)⟩
def delRl (d:List Rg) (r:Rg):List Rg:=match plR d r with | some k => d.take k ++ d.drop (k + 1) | none => d
def delRq (d:List Rg) (r:Rg):Int:=match plR d r with | some _ => 0 | none => 6
set_option maxHeartbeats 4000000 in
set_option maxRecDepth 100000 in
theorem rdel7_any (A:Option Addr) (n c:Nat) (d:List Rg) (r:Rg) (w:World) (hd:d.length = n) (hn:n ≤ 1000000) (h:Sl w w.heap.size 5 A n c (flatRg d)) (l:List Rg) (hl:delRl d r = l) (q:Int) (hq:delRq d r = q) :
  Calls Tryz.prog 52 #[.slice A n c,.agg #[.int .i64 r.fr,.int .i64 r.tn,.int .i64 r.st,.int .i64 r.en,.int .i64 r.ow]] w fun e w' => ∃ v,e = .returned (.tuple #[v,.int .i64 q]) ∧ w'.ownsRow w.heap.size 35 5 v l.length (flatRg l) ∧ Below w.heap.size w w':=by
 obtain ⟨i0,hi0,hz0,hz1,hz2⟩:=info_parts infoRg
 have hB:Below w.heap.size w (w.alloc (.cells #[.int .i64 r.fr,.int .i64 r.tn,.int .i64 r.st,.int .i64 r.en,.int .i64 r.ow] 35)):=by (repeat (first | exact Below.refl _ _ | refine Below.alloc ?_ (by first | omega | (simp; done) | (simp; omega)) _ | refine Below.setCell ?_ (by first | omega | (simp; done) | (simp; omega)) _ | refine Below.drew ?_))
 have hX:=Blok.new w 35 #[.int .i64 r.fr,.int .i64 r.tn,.int .i64 r.st,.int .i64 r.en,.int .i64 r.ow]
 have hs:=hB.size
 have HD:=Lib.hid hd
 have hL:=h.up hB
 have HLL:=Lib.hid hl
 have HQQ:=Lib.hid hq
 clear hd h hl hq
 obtain ⟨oo,hoo⟩:∃ o,plR d r = o:=⟨_,rfl⟩
 have HOO:=Lib.hid hoo
 clear hoo
 go_enter Tryz.func52,Tryz.ntmps52
 go_upto_region 1 with fail
 generalize w.alloc (.cells #[.int .i64 r.fr,.int .i64 r.tn,.int .i64 r.st,.int .i64 r.en,.int .i64 r.ow] 35) = w1 at *
 have x0:w1.cell? ⟨w.heap.size,0,none⟩ = some (.int .i64 r.fr):=hX.cell 0
 have x1:w1.cell? ⟨w.heap.size,1,none⟩ = some (.int .i64 r.tn):=hX.cell 1
 have x2:w1.cell? ⟨w.heap.size,2,none⟩ = some (.int .i64 r.st):=hX.cell 2
 have x3:w1.cell? ⟨w.heap.size,3,none⟩ = some (.int .i64 r.en):=hX.cell 3
 have x4:w1.cell? ⟨w.heap.size,4,none⟩ = some (.int .i64 r.ow):=hX.cell 4
 have lt_x:=hX.lt
 go_wp2_with fail
 clear x0 x1 x2 x3 x4 lt_x
 refine (rplace_any A n c d r w1 HD.out hn hL oo HOO.out).mono ?_
 rintro e w2 ⟨rfl,hb⟩
 replace hL:=hL.up hb
 replace hX:=hX.below hb hX.lt
 replace hB:=hB.trans (hb.mono hs)
 replace hs:=hB.size
 clear hb
 cases oo with
 | none =>
  have HV:Hid (l = d ∧ q = 6):=⟨by rw [← HLL.out]; unfold delRl; rw [HOO.out],by rw [← HQQ.out]; unfold delRq; rw [HOO.out]⟩
  dsimp only [plV]
  go_wp2_with fail
  refine (rcopy7_any A n c d w2 HD.out hn hL).mono ?_
  rintro e w3 ⟨v,rfl,hown,hb⟩
  go_wp2_with fail
  go_ret2
  exact ⟨_,by rw [HV.out.2]; rfl,by rw [HV.out.1,HD.out]; exact own_down hown hs,hB.trans (hb.mono hs)⟩
 | some k =>
  have hkn:k < n:=by rw [← HD.out]; exact plR_lt HOO.out
  have HV:Hid (l = d.take k ++ d.drop (k + 1) ∧ q = 0):=⟨by rw [← HLL.out]; unfold delRl; rw [HOO.out],by rw [← HQQ.out]; unfold delRq; rw [HOO.out]⟩
  have g3:decide ((k:Int) < 0) = false:=decide_eq_false (by omega)
  dsimp only [plV]
  have hcap:=hL.cap
  have hmax:=hL.max
  unfold maxLen at hmax
  have hk1:k ≤ n:=by omega
  have hkI:(k:Int) ≤ (n:Int):=by omega
  have hk0:(0:Int) ≤ (k:Int):=by omega
  have hkc:k ≤ c:=by omega
  have hkcI:(k:Int) ≤ (c:Int):=by omega
  have hw1:IntKind.i64.wrap ((k:Int) + 1) = (k:Int) + 1:=IntWalk.i64_in _ (by omega)
  have hk2:k + 1 ≤ n:=hkn
  have hk2I:(k:Int) + 1 ≤ (n:Int):=by omega
  have hk2cI:(k:Int) + 1 ≤ (c:Int):=by omega
  have hk20:(0:Int) ≤ (k:Int) + 1:=by omega
  have hk2c:k + 1 ≤ c:=by omega
  have hs1:=hL.upto hk1
  have hs2:=hL.from_ hk2
  rw [flatRg_take] at hs1
  rw [flatRg_drop] at hs2
  have HDT:=Lib.hid (show (d.take k).length = k by rw [List.length_take,HD.out]; omega)
  have HDL:=Lib.hid (show (d.drop (k + 1)).length = n - (k + 1) by rw [List.length_drop,HD.out])
  clear hL
  have x0:w2.cell? ⟨w.heap.size,0,none⟩ = some (.int .i64 r.fr):=hX.cell 0
  have lt_x:=hX.lt
  go_wp2_with fail
  go_region_held3 (fun w' => w'.cell? ⟨w.heap.size,0,none⟩ = some (.int .i64 r.fr))
   (first | go_keep | exact hx3.cell 0 | exact hx4.cell 0)
   (first
   | (go_at_call 86; (with_reducible refine Calls.mono (rcopy7_any A k c (d.take k) _ HDT.out (by omega) (hs1.up (by (repeat (first | exact Below.refl _ _ | refine Below.alloc ?_ (by first | omega | (simp; done) | (simp; omega)) _ | refine Below.setCell ?_ (by first | omega | (simp; done) | (simp; omega)) _ | refine Below.drew ?_))))) ?_); rintro e w3 ⟨v3,rfl,hown3,hb3⟩; have hB3:Below w2.heap.size w2 w3:=Below.trans (by (repeat (first | exact Below.refl _ _ | refine Below.alloc ?_ (by first | omega | (simp; done) | (simp; omega)) _ | refine Below.setCell ?_ (by first | omega | (simp; done) | (simp; omega)) _ | refine Below.drew ?_))) (hb3.mono (by simp)); have hx3:=hX.below hB3 lt_x; replace hown3:=own_down (base':=w2.heap.size) hown3 (by simp); dsimp only)
   | (refine step_append_lst _ (by rfl) (.tmp 17) (.tmp 21) 23 (by rfl) w2.heap.size 35 i0 _ 5 40 Tryz.underlying23 hi0 hz0 hz1 hz2 (by rfl) (by decide) v3 _ _ (by rfl) hown3 w2.heap.size _ (n - (k + 1)) _ (flatRg (d.drop (k + 1))) (by first | rfl | (simp [Act.eval,Act.put]; done)) (by have h:=(hs2.below hB3).lst; first | exact h | simpa using h) (flatRg_one _) (by unfold maxLen; omega) (by omega) (by have:=hB3.size; omega) ?_; intro v4 w4 hown4 hg4 hat4; have hB4:Below w2.heap.size w2 w4:=Below.grown hB3 hg4 hB3.size (fun k hk => (hown3.lt k hk).1); have hx4:=hX.below hB4 lt_x))
  all_goals
   have hfin:=hB.trans (hB4.mono hs)
   have hown6:=own_down (base':=w.heap.size) hown4 hs
   clear hown3 hown4 hb3 hB3 hB4 hx3 hx4 hX x0 lt_x hg4 hat4 hs1 hs2
   go_wp2_with fail
   all_goals
    go_ret2
    refine ⟨_,by rw [HV.out.2]; rfl,?_,hfin⟩
    rw [HV.out.1,List.length_append,HDT.out,HDL.out,flatRg_append]
    exact hown6
end Go.Proofs.YtolaabllhibkdaaGreat.Kr

/- The document's own ranges: Add. -/
namespace Go.Proofs.YtolaabllhibkdaaGreat.Kr
open Go.ChangeShapes Go.WideShapes Go.ChangeAt Go.RowKit Go.Sort
set_option linter.unusedSimpArgs false
set_option linter.unusedVariables false
/-- Behind the last one that stands ahead. -/
def lastR (d : List Rg) (r : Rg) : Nat → Nat
  | 0 => 0
  | i + 1 => if cmpR (gRg d i) r < 0 then i + 1 else lastR d r i
theorem lastR_le (d : List Rg) (r : Rg) : ∀ i, lastR d r i ≤ i
  | 0 => Nat.le_refl _
  | i + 1 => by rw [lastR]; split; · omega
                · have := lastR_le d r i; omega
theorem lastR_at (d : List Rg) (r : Rg) : ∀ i, lastR d r i = 0 ∨ cmpR (gRg d (lastR d r i - 1)) r < 0
  | 0 => .inl rfl
  | i + 1 => by
    rw [lastR]; split
    · right; rw [Nat.add_sub_cancel]; assumption
    · exact lastR_at d r i
theorem lastR_hi (d : List Rg) (r : Rg) : ∀ i j, lastR d r i ≤ j → j < i → 0 ≤ cmpR (gRg d j) r
  | 0, j, _, h => by omega
  | i + 1, j, h1, h2 => by
    rw [lastR] at h1
    split at h1
    · omega
    · rename_i hc
      by_cases e : j = i
      · subst e; omega
      · exact lastR_hi d r i j h1 (by omega)
theorem lastR_end {d : List Rg} (r : Rg) : lastR d r d.length = d.length ∨ 0 ≤ cmpR (gRg d (lastR d r d.length)) r := by
  by_cases h : lastR d r d.length = d.length
  · exact .inl h
  · have := lastR_le d r d.length
    exact .inr (lastR_hi d r _ _ (Nat.le_refl _) (by omega))
theorem mayR_arg {d : List Rg} {r : Rg} (h : okR r = false) : mayF d r = 1 := by unfold mayF; rw [if_pos h]
theorem mayR_full {d : List Rg} {r : Rg} (h : okR r = true) (h2 : 4096 ≤ d.length) : mayF d r = 3 := by unfold mayF; rw [if_neg (by rw [h]; simp), if_pos h2]
theorem mayR_over {d : List Rg} {r : Rg} (h : okR r = true) (h2 : d.length < 4096) (h4 : d.any (fun o => overR o r) = true) : mayF d r = 5 := by
  unfold mayF; rw [if_neg (by rw [h]; simp), if_neg (by omega), if_pos h4]
theorem mayR_zero {d : List Rg} {r : Rg} (h : okR r = true) (h2 : d.length < 4096) (h4 : d.any (fun o => overR o r) = false) : mayF d r = 0 := by
  unfold mayF; rw [if_neg (by rw [h]; simp), if_neg (by omega), if_neg (by rw [h4]; simp)]
/-- What Add leaves. -/
def addRl (d : List Rg) (r : Rg) : List Rg := if mayF d r = 0 then insR d (lastR d r d.length) r else d
theorem addRl_no {d : List Rg} {r : Rg} (h : mayF d r ≠ 0) : addRl d r = d := by unfold addRl; rw [if_neg h]
theorem addRl_yes {d : List Rg} {r : Rg} (h : mayF d r = 0) : addRl d r = insR d (lastR d r d.length) r := by unfold addRl; rw [if_pos h]
theorem anyR_over {d : List Rg} {r : Rg} {i : Nat} (hi : i < d.length) (h : overR (gRg d i) r = true) : d.any (fun o => overR o r) = true := List.any_eq_true.2 ⟨_, gRg_mem hi, h⟩
theorem anyR_none {d : List Rg} {r : Rg} (h : ∀ j, j < d.length → overR (gRg d j) r = false) : d.any (fun o => overR o r) = false := by
  rw [List.any_eq_false]
  intro x hx
  obtain ⟨j, hj, rfl⟩ := mem_gRg hx
  simp [h j hj]
set_option maxHeartbeats 8000000 in
set_option maxRecDepth 100000 in
theorem radd7_any (A : Option Addr) (n c : Nat) (d : List Rg) (r : Rg) (w : World) (hd : d.length = n) (hn : n ≤ 1000000 - 1) (h : Sl w w.heap.size 5 A n c (flatRg d)) (q : Int) (hq : mayF d r = q) (l : List Rg) (hl : addRl d r = l) :
    Calls Tryz.prog 50 #[.slice A n c, .agg #[.int .i64 r.fr, .int .i64 r.tn, .int .i64 r.st, .int .i64 r.en, .int .i64 r.ow]] w fun e w' => ∃ v, e = .returned (.tuple #[v, .int .i64 q]) ∧ w'.ownsRow w.heap.size 35 5 v l.length (flatRg l) ∧ Below w.heap.size w w' := by
  obtain ⟨i0, hi0, hz0, hz1, hz2⟩ := info_parts infoRg
  have hB : Below w.heap.size w (w.alloc (.cells #[.int .i64 r.fr, .int .i64 r.tn, .int .i64 r.st, .int .i64 r.en, .int .i64 r.ow] 35)) := by (repeat (first | exact Below.refl _ _ | refine Below.alloc ?_ (by first | omega | (simp; done) | (simp; omega)) _ | refine Below.setCell ?_ (by first | omega | (simp; done) | (simp; omega)) _ | refine Below.drew ?_))
  have hX := Blok.new w 35 #[.int .i64 r.fr, .int .i64 r.tn, .int .i64 r.st, .int .i64 r.en, .int .i64 r.ow]
  have hs := h.up hB
  have hcap := h.cap
  have hmax := h.max
  unfold maxLen at hmax
  have HD := Lib.hid hd
  have HQ := Lib.hid hq
  have HLL := Lib.hid hl
  obtain ⟨ok, hok⟩ : ∃ ok, okR r = ok := ⟨_, rfl⟩
  have HOK := Lib.hid hok
  clear h hd hq hl hok
  go_enter Tryz.func50, Tryz.ntmps50
  go_wp2_with fail
  generalize w.alloc (.cells #[.int .i64 r.fr, .int .i64 r.tn, .int .i64 r.st, .int .i64 r.en, .int .i64 r.ow] 35) = w2 at *
  refine (rrange_b ok (show rangeB r.fr r.tn r.st r.en r.ow = ok from HOK.out) w2).mono ?_
  rintro e w3 ⟨rfl, hb3⟩
  replace hs := hs.up hb3
  replace hX := hX.below hb3 hX.lt
  replace hB := hB.trans (hb3.mono hB.size)
  clear hb3
  cases ok
  · have hm := mayR_arg (d := d) HOK.out
    have HQ2 := Lib.hid (HQ.out.symm.trans hm)
    have HL2 := Lib.hid (HLL.out.symm.trans (addRl_no (by rw [hm]; decide)))
    clear hm
    go_wp2_with fail
    refine (rcopy7_any A n c d w3 HD.out (by omega) hs).mono ?_
    rintro e w4 ⟨v, rfl, hown, hb4⟩
    have hsz := hB.size
    go_wp2_with fail
    go_ret2
    exact ⟨_, by rw [HQ2.out]; rfl, by rw [HL2.out, HD.out]; exact own_down hown hsz, hB.trans (hb4.mono hsz)⟩
  · by_cases hbig : 4096 ≤ n
    · have hm := mayR_full (d := d) HOK.out (by rw [HD.out]; exact hbig)
      have HQ2 := Lib.hid (HQ.out.symm.trans hm)
      have HL2 := Lib.hid (HLL.out.symm.trans (addRl_no (by rw [hm]; decide)))
      have g1 : decide ((n : Int) ≥ 4096) = true := decide_eq_true (by omega)
      clear hm
      go_wp2_with fail
      refine (rcopy7_any A n c d w3 HD.out (by omega) hs).mono ?_
      rintro e w4 ⟨v, rfl, hown, hb4⟩
      have hsz := hB.size
      go_wp2_with fail
      go_ret2
      exact ⟨_, by rw [HQ2.out]; rfl, by rw [HL2.out, HD.out]; exact own_down hown hsz, hB.trans (hb4.mono hsz)⟩
    · have g1 : decide ((n : Int) ≥ 4096) = false := decide_eq_false (by omega)
      go_wp2_with fail
      have HSX := Lib.hid hs
      have HXX := Lib.hid hX
      have HBX := Lib.hid hB
      clear hs hX hB
      go_loopw [6, 7] (fun kv iv wr => ∃ (k i : Nat), kv = .int .i64 k ∧ iv = .int .i64 i ∧ i ≤ n ∧ Hid (lastR d r i = k) ∧ Hid (∀ j, j < i → overR (gRg d j) r = false) ∧ Below w3.heap.size w3 wr) (fun _ iv _ => n - (intOf iv).toNat)
      case atStart => exact ⟨0, 0, rfl, rfl, by omega, rfl, (fun j hj => by omega), Below.refl _ _⟩
      case round =>
        obtain ⟨k, i, rfl, rfl, hi, HK, HV, hb⟩ := hrel
        have hX := HXX.out.below hb HXX.out.lt
        have hs := HSX.out.up hb
        have hB := HBX.out.trans (hb.mono HBX.out.size)
        have lt_x := hX.lt
        have x0 : wr.cell? ⟨w.heap.size, 0, none⟩ = some (.int .i64 r.fr) := hX.cell 0
        have x1 : wr.cell? ⟨w.heap.size, 1, none⟩ = some (.int .i64 r.tn) := hX.cell 1
        have x2 : wr.cell? ⟨w.heap.size, 2, none⟩ = some (.int .i64 r.st) := hX.cell 2
        have x3 : wr.cell? ⟨w.heap.size, 3, none⟩ = some (.int .i64 r.en) := hX.cell 3
        have x4 : wr.cell? ⟨w.heap.size, 4, none⟩ = some (.int .i64 r.ow) := hX.cell 4
        by_cases hin : i < n
        · obtain ⟨ad, rfl, hab, c0, c1, c2, c3, c4⟩ := hs.lst.atRg HD.out hin
          obtain ⟨y, hy⟩ : ∃ y, gRg d i = y := ⟨_, rfl⟩
          rw [hy] at c0 c1 c2 c3 c4
          have HY := Lib.hid hy
          obtain ⟨ov, hov⟩ : ∃ ov, overR y r = ov := ⟨_, rfl⟩
          have HOV := Lib.hid hov
          clear hy hov
          go_wp2_with fail
          have q_c0 := fun d os => cell_regrown c0 d os
          have q_c1 := fun d os => cell_regrown c1 d os
          have q_c2 := fun d os => cell_regrown c2 d os
          have q_c3 := fun d os => cell_regrown c3 d os
          have q_c4 := fun d os => cell_regrown c4 d os
          have q_x0 := fun d os => cell_regrown x0 d os
          have q_x1 := fun d os => cell_regrown x1 d os
          have q_x2 := fun d os => cell_regrown x2 d os
          have q_x3 := fun d os => cell_regrown x3 d os
          have q_x4 := fun d os => cell_regrown x4 d os
          try simp only [List.append]
          first | refine wp_region_text_below ?_ | refine wp_region_quiet_below (by kernel_rfl) (by kernel_rfl) ?_
          repeat (go_big_quiet_step (((go_at_call 76; with_reducible exact Calls.regrown_of (roverlap_any y r _ HOV.out _)))))
          refine wpQuiet_nil ?_
          intro _ hqw
          obtain ⟨pq, hqw⟩ := hqw
          subst hqw
          clear q_c0 q_c1 q_c2 q_c3 q_c4 q_x0 q_x1 q_x2 q_x3 q_x4
          have hbel := below_regrown wr pq.d pq.os
          replace hb := hb.trans (hbel.mono hb.size)
          clear hbel c0 c1 c2 c3 c4 x0 x1 x2 x3 x4 hX hs hB lt_x
          generalize grow (redrawn wr pq.d) pq.os = wq at *
          have hX := HXX.out.below hb HXX.out.lt
          have hs := HSX.out.up hb
          have hB := HBX.out.trans (hb.mono HBX.out.size)
          have lt_x := hX.lt
          cases ov
          · obtain ⟨ae, he, _, c0, c1, c2, c3, c4⟩ := hs.lst.atRg HD.out hin
            injection he with he
            subst he
            rw [HY.out] at c0 c1 c2 c3 c4
            have x0 : wq.cell? ⟨w.heap.size, 0, none⟩ = some (.int .i64 r.fr) := hX.cell 0
            have x1 : wq.cell? ⟨w.heap.size, 1, none⟩ = some (.int .i64 r.tn) := hX.cell 1
            have x2 : wq.cell? ⟨w.heap.size, 2, none⟩ = some (.int .i64 r.st) := hX.cell 2
            have x3 : wq.cell? ⟨w.heap.size, 3, none⟩ = some (.int .i64 r.en) := hX.cell 3
            have x4 : wq.cell? ⟨w.heap.size, 4, none⟩ = some (.int .i64 r.ow) := hX.cell 4
            have HV2 : Hid (∀ j, j < i + 1 → overR (gRg d j) r = false) := fun j hj => by
              by_cases e : j = i
              · subst e; rw [HY.out]; exact HOV.out
              · exact HV.out j (by omega)
            have hnl : lastR d r (i + 1) = if cmpR y r < 0 then i + 1 else k := by rw [lastR, HY.out, HK.out]
            obtain ⟨lt, hlt⟩ : ∃ lt, decide (cmpR y r < 0) = lt := ⟨_, rfl⟩
            have HLT := Lib.hid hlt
            cases lt
            · rw [if_neg (by simpa using hlt)] at hnl
              have HNL := Lib.hid hnl
              clear hnl hlt
              go_wp2_with fail
              have q_c0 := fun d os => cell_regrown c0 d os
              have q_c1 := fun d os => cell_regrown c1 d os
              have q_c2 := fun d os => cell_regrown c2 d os
              have q_c3 := fun d os => cell_regrown c3 d os
              have q_c4 := fun d os => cell_regrown c4 d os
              have q_x0 := fun d os => cell_regrown x0 d os
              have q_x1 := fun d os => cell_regrown x1 d os
              have q_x2 := fun d os => cell_regrown x2 d os
              have q_x3 := fun d os => cell_regrown x3 d os
              have q_x4 := fun d os => cell_regrown x4 d os
              try simp only [List.append]
              first | refine wp_region_text_below ?_ | refine wp_region_quiet_below (by kernel_rfl) (by kernel_rfl) ?_
              repeat (go_big_quiet_step (((go_at_call 75; with_reducible exact Calls.regrown_of (rless_any y r _ HLT.out _)))))
              refine wpQuiet_nil ?_
              intro _ hqw
              obtain ⟨pq, hqw⟩ := hqw
              subst hqw
              clear q_c0 q_c1 q_c2 q_c3 q_c4 q_x0 q_x1 q_x2 q_x3 q_x4
              have hbel := below_regrown wq pq.d pq.os
              replace hb := hb.trans (hbel.mono hb.size)
              clear hbel c0 c1 c2 c3 c4 x0 x1 x2 x3 x4 hX hs hB lt_x
              generalize grow (redrawn wq pq.d) pq.os = wp at *
              go_wp2_with fail
              go_roundw
              case rel => exact ⟨k, i + 1, rfl, by go_num, by omega, HNL, HV2, hb⟩
              case measure => simp [intOf]; omega
            · rw [if_pos (by simpa using hlt)] at hnl
              have HNL := Lib.hid hnl
              clear hnl hlt
              go_wp2_with fail
              have q_c0 := fun d os => cell_regrown c0 d os
              have q_c1 := fun d os => cell_regrown c1 d os
              have q_c2 := fun d os => cell_regrown c2 d os
              have q_c3 := fun d os => cell_regrown c3 d os
              have q_c4 := fun d os => cell_regrown c4 d os
              have q_x0 := fun d os => cell_regrown x0 d os
              have q_x1 := fun d os => cell_regrown x1 d os
              have q_x2 := fun d os => cell_regrown x2 d os
              have q_x3 := fun d os => cell_regrown x3 d os
              have q_x4 := fun d os => cell_regrown x4 d os
              try simp only [List.append]
              first | refine wp_region_text_below ?_ | refine wp_region_quiet_below (by kernel_rfl) (by kernel_rfl) ?_
              repeat (go_big_quiet_step (((go_at_call 75; with_reducible exact Calls.regrown_of (rless_any y r _ HLT.out _)))))
              refine wpQuiet_nil ?_
              intro _ hqw
              obtain ⟨pq, hqw⟩ := hqw
              subst hqw
              clear q_c0 q_c1 q_c2 q_c3 q_c4 q_x0 q_x1 q_x2 q_x3 q_x4
              have hbel := below_regrown wq pq.d pq.os
              replace hb := hb.trans (hbel.mono hb.size)
              clear hbel c0 c1 c2 c3 c4 x0 x1 x2 x3 x4 hX hs hB lt_x
              generalize grow (redrawn wq pq.d) pq.os = wp at *
              go_wp2_with fail
              go_roundw
              case rel => exact ⟨i + 1, i + 1, by go_num, by go_num, by omega, HNL, HV2, hb⟩
              case measure => simp [intOf]; omega
          · have hm := mayR_over (d := d) (r := r) HOK.out (by rw [HD.out]; omega) (anyR_over (i := i) (by rw [HD.out]; exact hin) (by rw [HY.out]; exact HOV.out))
            have HQ2 := Lib.hid (HQ.out.symm.trans hm)
            have HL2 := Lib.hid (HLL.out.symm.trans (addRl_no (by rw [hm]; decide)))
            clear hm
            go_wp2_with fail
            refine (rcopy7_any _ n c d wq HD.out (by omega) hs).mono ?_
            rintro e w6 ⟨v, rfl, hown, hb6⟩
            have hsz := hB.size
            go_wp2_with fail
            go_ret2
            exact ⟨_, by rw [HQ2.out]; rfl, by rw [HL2.out, HD.out]; exact own_down hown hsz, hB.trans (hb6.mono hsz)⟩
        · obtain rfl : i = n := by omega
          have hm := mayR_zero (d := d) (r := r) HOK.out (by rw [HD.out]; omega) (anyR_none (fun j hj => HV.out j (by rw [HD.out] at hj; exact hj)))
          have HQ2 := Lib.hid (HQ.out.symm.trans hm)
          have hk : k ≤ i := by rw [← HK.out]; exact lastR_le d r i
          have hl2 := HLL.out.symm.trans (addRl_yes hm)
          rw [HD.out, HK.out] at hl2
          have HL2 := Lib.hid hl2
          clear hm hl2
          have hkI : (k : Int) ≤ (i : Int) := by omega
          have hk0 : (0 : Int) ≤ (k : Int) := by omega
          have hkc : k ≤ c := by omega
          have hkcI : (k : Int) ≤ (c : Int) := by omega
          have hs1 := hs.upto hk
          have hs2 := hs.from_ hk
          rw [flatRg_take] at hs1
          rw [flatRg_drop] at hs2
          have HDT := Lib.hid (show (d.take k).length = k by rw [List.length_take, HD.out]; omega)
          have HDL := Lib.hid (show (d.drop k).length = i - k by rw [List.length_drop, HD.out])
          clear hs
          go_wp2_with fail
          go_region_held3 (fun w' => w'.cell? ⟨w.heap.size, 0, none⟩ = some (.int .i64 r.fr) ∧ w'.cell? ⟨w.heap.size, 1, none⟩ = some (.int .i64 r.tn) ∧ w'.cell? ⟨w.heap.size, 2, none⟩ = some (.int .i64 r.st) ∧ w'.cell? ⟨w.heap.size, 3, none⟩ = some (.int .i64 r.en) ∧ w'.cell? ⟨w.heap.size, 4, none⟩ = some (.int .i64 r.ow))
            (first | go_keep | exact ⟨hx3.cell 0, hx3.cell 1, hx3.cell 2, hx3.cell 3, hx3.cell 4⟩ | exact ⟨hx4.cell 0, hx4.cell 1, hx4.cell 2, hx4.cell 3, hx4.cell 4⟩ | exact ⟨hx5.cell 0, hx5.cell 1, hx5.cell 2, hx5.cell 3, hx5.cell 4⟩)
            (first
              | (go_at_call 86; (with_reducible refine Calls.mono (rcopy7_any A k c (d.take k) _ HDT.out (by omega) (hs1.up (by (repeat (first | exact Below.refl _ _ | refine Below.alloc ?_ (by first | omega | (simp; done) | (simp; omega)) _ | refine Below.setCell ?_ (by first | omega | (simp; done) | (simp; omega)) _ | refine Below.drew ?_))))) ?_); rintro e w3 ⟨v3, rfl, hown3, hb3⟩; have hB3 : Below wr.heap.size wr w3 := Below.trans (by (repeat (first | exact Below.refl _ _ | refine Below.alloc ?_ (by first | omega | (simp; done) | (simp; omega)) _ | refine Below.setCell ?_ (by first | omega | (simp; done) | (simp; omega)) _ | refine Below.drew ?_))) (hb3.mono (by simp)); have hx3 := hX.below hB3 lt_x; replace hown3 := own_down (base' := wr.heap.size) hown3 (by simp); dsimp only)
              | (refine step_append_lst _ (by rfl) (.tmp 43) (.tmp 45) 23 (by rfl) wr.heap.size 35 i0 _ 5 40 Tryz.underlying23 hi0 hz0 hz1 hz2 (by rfl) (by decide) v3 _ _ (by rfl) (by first | exact hown3 | exact hown3.alloc _) _ (some ⟨w3.heap.size, 0, none⟩) 1 1 [.int .i64 r.fr, .int .i64 r.tn, .int .i64 r.st, .int .i64 r.en, .int .i64 r.ow] (by rfl) ⟨by rfl, fun _ => ⟨_, rfl, (show w3.heap.size < w3.heap.size + 1 by omega), lit_cells w3 #[.int .i64 r.fr, .int .i64 r.tn, .int .i64 r.st, .int .i64 r.en, .int .i64 r.ow] _ _ rfl⟩⟩ (by simp [Value.oneCell']) (by unfold maxLen; omega) (by omega) (by have := hB3.size; simp at *; omega) ?_; intro v4 w4 hown4 hg4 hat4; have hB4 : Below wr.heap.size wr w4 := Below.grown (hB3.alloc hB3.size _) hg4 (by have := hB3.size; simp; omega) (fun k hk => (hown3.lt k hk).1); have hx4 := hX.below hB4 lt_x)
              | (refine step_append_lst _ (by rfl) (.tmp 43) (.tmp 45) 23 (by rfl) wr.heap.size 35 i0 _ 5 40 Tryz.underlying23 hi0 hz0 hz1 hz2 (by rfl) (by decide) v3 _ _ (by rfl) hown3 _ (some ⟨wr.heap.size, 0, none⟩) 1 1 [.int .i64 r.fr, .int .i64 r.tn, .int .i64 r.st, .int .i64 r.en, .int .i64 r.ow] (by rfl) (by exact (Lst.of_own (own_lit wr.drew 0 35 5 1 #[.int .i64 r.fr, .int .i64 r.tn, .int .i64 r.st, .int .i64 r.en, .int .i64 r.ow] (by omega) rfl (by simp [maxLen]))).below hb3) (by simp [Value.oneCell']) (by unfold maxLen; omega) (by omega) (by have := hB3.size; omega) ?_; intro v4 w4 hown4 hg4 hat4; have hB4 : Below wr.heap.size wr w4 := Below.grown hB3 hg4 hB3.size (fun k hk => (hown3.lt k hk).1); have hx4 := hX.below hB4 lt_x)
              | (refine step_append_lst _ (by rfl) (.tmp 46) (.tmp 49) 23 (by rfl) wr.heap.size 35 i0 _ 5 40 Tryz.underlying23 hi0 hz0 hz1 hz2 (by rfl) (by decide) v4 _ _ (by rfl) hown4 wr.heap.size _ (i - k) _ (flatRg (d.drop k)) (by first | rfl | (simp [Act.eval, Act.put]; done)) (by have h := (hs2.below hB4).lst; first | exact h | simpa using h) (flatRg_one _) (by unfold maxLen; omega) (by omega) (by have := hB4.size; omega) ?_; intro v5 w5 hown5 hg5 hat5; have hB5 : Below wr.heap.size wr w5 := Below.grown hB4 hg5 hB4.size (fun k hk => (hown4.lt k hk).1); have hx5 := hX.below hB5 lt_x))
          all_goals
            have hfin := hB.trans (hB5.mono hB.size)
            have hown6 := own_down (base' := w.heap.size) hown5 hB.size
            clear hown3 hown4 hown5 hb3 hB3 hB4 hB5 hx3 hx4 hx5 hg4 hg5 hat4 hat5 hs1 hs2 x0 x1 x2 x3 x4 hX lt_x
            go_wp2_with fail
            all_goals
              go_ret2
              refine ⟨_, by rw [HQ2.out]; rfl, ?_, hfin⟩
              rw [HL2.out, insR_length r (by rw [HD.out]; exact hk), HD.out]
              unfold insR
              rw [flatRg_append, flatRg_append, flatRg_one_]
              rw [show k + 1 + (i - k) = i + 1 by omega] at hown6
              exact hown6
end Go.Proofs.YtolaabllhibkdaaGreat.Kr
