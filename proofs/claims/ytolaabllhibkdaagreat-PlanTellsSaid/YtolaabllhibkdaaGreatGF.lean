/- Several texts of mine in one: PlanMath2, PlanMath3, PlanTo, PlanSet. No condition. -/
import Derived.Test.YtolaabllhibkdaaGreatGI
import Derived.Test.YtolaabllhibkdaaGreatGT
import Derived.Test.YtolaabllhibkdaaGreatPlan6
import Derived.Test.YtolaabllhibkdaaGreatPlan5
import Derived.Test.YtolaabllhibkdaaGreatGC

/- Plain facts on plans: time that goes on once, or twice; what is left behind a step of time; what was added and deleted. No condition. -/
namespace Go.Proofs.YtolaabllhibkdaaGreat
open Go.ChangeShapes Go.WideShapes Go.ChangeAt Go.RowKit Go.Sort
set_option linter.unusedSimpArgs false
set_option linter.unusedVariables false
theorem leftC_gone (d:List Co) (b:Int):(Kc.leftC d b).length + (Kc.goneL d b).length = d.length:=by
 unfold Kc.goneL Kc.leftC
 simp only [List.length_map]
 induction d with
 | nil => rfl
 | cons x d ih =>
  simp only [List.filter_cons]
  unfold Kc.overE at *
  by_cases h2:x.en ≤ b
  ·simp [h2] at ih ⊢
   omega
  ·simp [h2] at ih ⊢
   omega
theorem sortI_len (l:List Int):(sortI l).length = l.length:=by unfold sortI; exact List.length_mergeSort l
theorem advQ_yes {p:Pl} {now:Int} (h0:p.clk ≤ now) (h1:now ≤ 2147483647):inB now p.clk 2147483647 = true:=by unfold inB; simp [h0,h1]
/-- behind a step of time -/
structure Adv (p q:Pl) (now:Int):Prop where
 cs:q.cs = Kc.leftC p.cs now
 rs:q.rs = p.rs.filter (fun x => !decide (x.en ≤ now))
 clk:q.clk = now
 v0:0 ≤ q.ver
 v1:q.ver ≤ 1099511627776
 q0:advQ p now = 0
 g:advG p now = sortI (Kc.goneL p.cs now)
 ver:q.ver = if now = p.clk then p.ver else min (p.ver + 1) 1099511627776
theorem adv_at {p:Pl} {now:Int} (h0:p.clk ≤ now) (h1:now ≤ 2147483647) (v0:0 ≤ p.ver) (v1:p.ver ≤ 1099511627776):Adv p (advP p now) now:=by
 have hi:=advQ_yes h0 h1
 have e:advP p now = ⟨Kc.leftC p.cs now,p.rs.filter (fun x => !decide (x.en ≤ now)),now,if now = p.clk then p.ver else min (p.ver + 1) 1099511627776⟩:=by unfold advP; rw [if_pos hi]
 refine ⟨by rw [e],by rw [e],by rw [e],?_,?_,by unfold advQ; rw [if_pos hi],by unfold advG; rw [if_pos hi],by rw [e]⟩
 ·rw [e]
  show 0 ≤ if now = p.clk then p.ver else min (p.ver + 1) 1099511627776
  split <;> omega
 ·rw [e]
  show (if now = p.clk then p.ver else min (p.ver + 1) 1099511627776) ≤ 1099511627776
  split <;> omega
theorem leftC_sub {d:List Co} {now:Int} {x:Co} (h:x ∈ Kc.leftC d now):x ∈ d ∧ now < x.en:=by
 unfold Kc.leftC at h
 obtain ⟨h1,h2⟩:=List.mem_filter.1 h
 refine ⟨h1,?_⟩
 unfold Kc.overE at h2
 simp only [Bool.not_eq_true',decide_eq_false_iff_not] at h2
 omega
theorem leftC_right {d:List Co} {now:Int} (h:Kc.rightC d = true):Kc.rightC (Kc.leftC d now) = true:=Kc.right_filter h _
theorem advP_right {p:Pl} {now:Int} (h:RightP p.cs p.rs p.clk p.ver):RightP (advP p now).cs (advP p now).rs (advP p now).clk (advP p now).ver:=by
 by_cases hin:inB now p.clk 2147483647 = true
 ·have hin2:=hin
  unfold inB at hin2
  rw [decide_eq_true_eq] at hin2
  have a:=adv_at hin2.1 hin2.2 h.v0 h.v1
  have hc0:=h.c0
  refine ⟨by rw [a.cs]; exact leftC_right h.co,by rw [a.rs]; exact Kr.right_filter h.rg _,by rw [a.clk]; omega,by rw [a.clk]; exact hin2.2,a.v0,a.v1,?_,?_⟩
  ·intro x hx
   rw [a.cs] at hx
   rw [a.clk]
   exact (leftC_sub hx).2
  ·intro x hx
   rw [a.rs] at hx
   rw [a.clk]
   have h2:=(List.mem_filter.1 hx).2
   simp only [Bool.not_eq_true',decide_eq_false_iff_not] at h2
   omega
 ·have e:advP p now = p:=by unfold advP; rw [if_neg hin]
  rw [e]; exact h
end Go.Proofs.YtolaabllhibkdaaGreat

/- Plain facts on plans: what is listed makes the same tables again; step by step, all directives. No condition. -/
namespace Go.Proofs.YtolaabllhibkdaaGreat
open Go.ChangeShapes Go.WideShapes Go.ChangeAt Go.RowKit Go.Sort
set_option linter.unusedSimpArgs false
set_option linter.unusedVariables false
end Go.Proofs.YtolaabllhibkdaaGreat

/- Contracts of a plan's calls, by what comes of them. They make new memory alone. -/
namespace Go.Proofs.YtolaabllhibkdaaGreat
open Go.ChangeShapes Go.WideShapes Go.ChangeAt Go.RowKit Go.Sort
set_option linter.unusedSimpArgs false
set_option linter.unusedVariables false
end Go.Proofs.YtolaabllhibkdaaGreat

/- A plan's variable is overwritten whole; numbers of acts. No condition. -/
namespace Go.Proofs.YtolaabllhibkdaaGreat
open Go.ChangeShapes Go.WideShapes Go.ChangeAt Go.RowKit Go.Sort
set_option linter.unusedSimpArgs false
set_option linter.unusedVariables false
theorem pl_set4 {W:World} {b:Nat} {T:TypeId} {u0 u1 u2 u3:Value} (h:Blok W b T #[u0,u1,u2,u3]) (v0 v1 v2 v3:Value):Blok ((((W.setCell ⟨b,0,none⟩ v0).setCell ⟨b,1,none⟩ v1).setCell ⟨b,2,none⟩ v2).setCell ⟨b,3,none⟩ v3) b T #[v0,v1,v2,v3]:=by
 have h2:=(((h.set_ 0 v0).set_ 1 v1).set_ 2 v2).set_ 3 v3
 simpa using h2
theorem pl_grown4 (W:World) (b:Nat) (v0 v1 v2 v3:Value):W.grownBy ((((W.setCell ⟨b,0,none⟩ v0).setCell ⟨b,1,none⟩ v1).setCell ⟨b,2,none⟩ v2).setCell ⟨b,3,none⟩ v3) (some b):=grown_sets [v0,v1,v2,v3] 0 W
theorem pl_below4 {B:Nat} {W0 W:World} (hB:Below B W0 W) (b:Nat) (hb:B ≤ b) (v0 v1 v2 v3:Value):Below B W0 ((((W.setCell ⟨b,0,none⟩ v0).setCell ⟨b,1,none⟩ v1).setCell ⟨b,2,none⟩ v2).setCell ⟨b,3,none⟩ v3):=
 (((hB.setCell (p:=⟨b,0,none⟩) hb v0).setCell (p:=⟨b,1,none⟩) hb v1).setCell (p:=⟨b,2,none⟩) hb v2).setCell (p:=⟨b,3,none⟩) hb v3
theorem pl_far4 {W:World} {b c:Nat} {T:TypeId} {us:Array Value} (h:Blok W c T us) (hne:c ≠ b) (v0 v1 v2 v3:Value):Blok ((((W.setCell ⟨b,0,none⟩ v0).setCell ⟨b,1,none⟩ v1).setCell ⟨b,2,none⟩ v2).setCell ⟨b,3,none⟩ v3) c T us:=
 (((h.far (p:=⟨b,0,none⟩) hne v0).far (p:=⟨b,1,none⟩) hne v1).far (p:=⟨b,2,none⟩) hne v2).far (p:=⟨b,3,none⟩) hne v3
structure AdvLen (x y:Pl) (g:List Int):Prop where
 len:y.cs.length + g.length = x.cs.length
theorem adv_len (p:Pl) (now:Int):AdvLen p (advP p now) (advG p now):=by
 constructor
 unfold advP advG
 split
 ·show (Kc.leftC p.cs now).length + _ = _
  rw [sortI_len]
  exact leftC_gone p.cs now
 ·simp
theorem adv_right {p:Pl} {now:Int} (h:p.right = true):(advP p now).right = true:=Pl.right_spec.2 (advP_right (Pl.right_spec.1 h))
end Go.Proofs.YtolaabllhibkdaaGreat
