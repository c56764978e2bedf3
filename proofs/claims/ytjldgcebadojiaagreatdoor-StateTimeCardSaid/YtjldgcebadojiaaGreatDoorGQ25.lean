/- Several texts of mine in one: OpenR, OpenP, OpenSt. No condition. -/
import Derived.Test.YtjldgcebadojiaaGreatDoorGQ2
import Derived.ChangeSame
import Derived.Lib.SmallJoins
namespace Go.Proofs.YtjldgcebadojiaaGreatDoor
open Go.ChangeShapes Go.WideShapes Go.ChangeAt Go.RowKit Go.Sort
set_option linter.unusedSimpArgs false
set_option linter.unusedVariables false
variable {H:Type} {enc:TypeId × Value → H} {P:Program}
theorem rows_of_trod {w:World} {base:Nat} {spare:Nat → Bool} {held:Bool} {t e:TypeId} {fuel:Nat} {cs:List Value} {x:DataW H × List MemPlace} (q:Nat) {K:Nat} (ht:P.underlying t = some (.slice e)) (hf:flatB P q e = true) (hK:P.cellsOf e = K) (hpos:0 < K)
  (hx:DataW.trod enc P w base spare held fuel t cs = some x) :
  ∃ (A:Option Addr) (n c:Nat) (ns:List Int),cs = [.slice A n c] ∧ Sl w w.heap.size K A n c (ns.map (Value.int .i64)) ∧ ns.length = n * K ∧ ∀ m ∈ ns,(Lit.int .i64 m).wf = true:=by
 subst hK
 rcases Go.Deep.open_slice ht hx with ⟨rfl,_⟩ | ⟨a,n,c,m,q',D,Pl,rfl,hb,hl,hm,hmm,_,hi⟩
 ·exact ⟨none,0,0,[],rfl,Sl.nil0 _ _ _,by simp,by simp⟩
 ·have hnm:n ≤ m:=by rw [hmm]; split <;> omega
  have key:∀ i,i ≤ n → ∃ ns:List Int,ns.length = i * P.cellsOf e ∧ (∀ j u,(ns.map (Value.int .i64))[j]? = some u → w.cell? (a.add j) = some u) ∧ ∀ m ∈ ns,(Lit.int .i64 m).wf = true:=by
   intro i
   induction i with
   | zero => exact fun _ => ⟨[],by simp,by simp,by simp⟩
   | succ i ih =>
    intro hin
    obtain ⟨ns,n1,n2,n3⟩:=ih (by omega)
    obtain ⟨cs',hc,htr⟩:=hi i (by omega)
    obtain ⟨_,hcl,hat⟩:=World.cells?_some hc
    obtain ⟨ms,e1,e2⟩:=ints_of_cells (flat_cell q hf htr)
    refine ⟨ns ++ ms,?_,fun j u hu => ?_,fun x hx => ?_⟩
    ·have hml:ms.length = P.cellsOf e:=by rw [← hcl,e1]; simp
     rw [List.length_append,n1,hml,Nat.add_mul,Nat.one_mul]
    ·rw [List.map_append] at hu
     by_cases hj:j < ns.length
     ·rw [List.getElem?_append_left (by simpa using hj)] at hu
      exact n2 j u hu
     ·rw [List.getElem?_append_right (by simpa using hj)] at hu
      have hjl:j - ns.length < P.cellsOf e:=by
       have:=(List.getElem?_eq_some_iff.1 hu).1
       rw [List.length_map] at this
       rw [← e1,hcl] at this
       simpa using this
      have:=hat (j - ns.length) hjl
      rw [add_plus,n1] at this
      rw [show i * P.cellsOf e + (j - i * P.cellsOf e) = j from by omega] at this
      rw [this,e1,← n1]
      simpa using hu
    ·rcases List.mem_append.1 hx with hx | hx
     ·exact n3 x hx
     ·exact e2 x hx
  obtain ⟨ns,n1,n2,n3⟩:=key n (Nat.le_refl _)
  refine ⟨some a,n,c,ns,rfl,⟨⟨by simpa using n1,fun hn => ⟨a,rfl,?_,n2⟩⟩,hl,hm,fun h => by cases h⟩,n1,n3⟩
  have h0:0 < ns.length:=by rw [n1]; exact Nat.mul_pos hn hpos
  have:=n2 0 (.int .i64 ns[0]) (by simp)
  rw [add_zero_] at this
  exact block_lt_of_cell this
end Go.Proofs.YtjldgcebadojiaaGreatDoor
namespace Go.Proofs.YtjldgcebadojiaaGreatDoor
open Go.ChangeShapes Go.WideShapes Go.ChangeAt Go.RowKit Go.Sort
set_option linter.unusedSimpArgs false
set_option linter.unusedVariables false
variable {H:Type} {enc:TypeId × Value → H} {P:Program}
end Go.Proofs.YtjldgcebadojiaaGreatDoor
namespace Go.Proofs.YtjldgcebadojiaaGreatDoor
open Go.ChangeShapes Go.WideShapes Go.ChangeAt Go.RowKit Go.Sort
set_option linter.unusedSimpArgs false
set_option linter.unusedVariables false
variable {H:Type} {enc:TypeId × Value → H} {P:Program}
theorem plan_of_trod {w:World} {base:Nat} {spare:Nat → Bool} {held:Bool} {t e0 e1:TypeId} {f0 f1 f2 f3:Field} {fuel:Nat} {c0 c1 c2 c3:Value} {o:DataW H × List MemPlace} (q:Nat) {K0 K1:Nat} (hs:P.underlying t = some (.struct #[f0,f1,f2,f3]))
  (hfo:(f0.offset == 0 && P.cellsOf f0.type == 1 && f1.offset == 1 && P.cellsOf f1.type == 1 && f2.offset == 2 && P.cellsOf f2.type == 1 && f3.offset == 3 && P.cellsOf f3.type == 1 && P.cellsOf t == 4) = true)
  (ht0:P.underlying f0.type = some (.slice e0)) (ht1:P.underlying f1.type = some (.slice e1)) (hi2:P.underlying f2.type = some (.int .i64)) (hi3:P.underlying f3.type = some (.int .i64)) (hf0:flatB P q e0 = true) (hf1:flatB P q e1 = true) (hK0:P.cellsOf e0 = K0) (hpos0:0 < K0) (hK1:P.cellsOf e1 = K1) (hpos1:0 < K1)
  (hx:DataW.trod enc P w base spare held fuel t [c0,c1,c2,c3] = some o) :
  ∃ (A:Option Addr) (n c:Nat) (ns:List Int) (B:Option Addr) (m k:Nat) (ms:List Int) (x y:Int),c0 = .slice A n c ∧ c1 = .slice B m k ∧ c2 = .int .i64 x ∧ c3 = .int .i64 y ∧
   Sl w w.heap.size K0 A n c (ns.map (Value.int .i64)) ∧ ns.length = n * K0 ∧ (∀ u ∈ ns,(Lit.int .i64 u).wf = true) ∧
   Sl w w.heap.size K1 B m k (ms.map (Value.int .i64)) ∧ ms.length = m * K1 ∧ (∀ u ∈ ms,(Lit.int .i64 u).wf = true) ∧ (Lit.int .i64 x).wf = true ∧ (Lit.int .i64 y).wf = true:=by
 simp only [Bool.and_eq_true,beq_iff_eq] at hfo
 obtain ⟨⟨⟨⟨⟨⟨⟨⟨o0,k0⟩,o1⟩,k1⟩,o2⟩,k2⟩,o3⟩,k3⟩,kt⟩:=hfo
 obtain ⟨y0,y1,y2,y3,n,_,hl,t0,t1,t2,t3⟩:=Go.Joins.trod_struct4 hs hx
 rw [o0,k0] at t0
 rw [o1,k1] at t1
 rw [o2,k2] at t2
 rw [o3,k3] at t3
 change DataW.trod enc P w base spare held n f0.type [c0] = some y0 at t0
 change DataW.trod enc P w base spare held n f1.type [c1] = some y1 at t1
 change DataW.trod enc P w base spare held n f2.type [c2] = some y2 at t2
 change DataW.trod enc P w base spare held n f3.type [c3] = some y3 at t3
 obtain ⟨A,n0,c,ns,g1,g2,g3,g4⟩:=rows_of_trod q ht0 hf0 hK0 hpos0 t0
 obtain ⟨B,m,k,ms,j1,j2,j3,j4⟩:=rows_of_trod q ht1 hf1 hK1 hpos1 t1
 obtain ⟨x,h1,_,h3⟩:=DataW.trod_int hi2 t2
 obtain ⟨y,i1,_,i3⟩:=DataW.trod_int hi3 t3
 injection g1 with g1
 injection j1 with j1
 injection h1 with h1
 injection i1 with i1
 subst g1 j1 h1 i1
 exact ⟨A,n0,c,ns,B,m,k,ms,x,y,rfl,rfl,rfl,rfl,g2,g3,g4,j2,j3,j4,h3,i3⟩
theorem open_state {w:World} {base b0:Nat} {r:Reach} {spare:Nat → Bool} {held:Bool} {s t e0 e1 e2:TypeId} {g0 g1 f0 f1 f2 f3:Field} {v:Value} {d:DataW H} {p:List MemPlace} (q:Nat) {K0 K1 K2:Nat} (hss:P.underlying s = some (.struct #[g0,g1]))
  (hgo:(g0.offset == 0 && P.cellsOf g0.type == 4 && g1.offset == 4 && P.cellsOf g1.type == 1 && P.cellsOf s == 5) = true) (hgt:g0.type = t) (hs:P.underlying t = some (.struct #[f0,f1,f2,f3]))
  (hfo:(f0.offset == 0 && P.cellsOf f0.type == 1 && f1.offset == 1 && P.cellsOf f1.type == 1 && f2.offset == 2 && P.cellsOf f2.type == 1 && f3.offset == 3 && P.cellsOf f3.type == 1 && P.cellsOf t == 4) = true)
  (ht0:P.underlying f0.type = some (.slice e0)) (ht1:P.underlying f1.type = some (.slice e1)) (ht2:P.underlying g1.type = some (.slice e2)) (hi2:P.underlying f2.type = some (.int .i64)) (hi3:P.underlying f3.type = some (.int .i64)) (hf0:flatB P q e0 = true) (hf1:flatB P q e1 = true) (hf2:flatB P q e2 = true) (hK0:P.cellsOf e0 = K0) (hpos0:0 < K0) (hK1:P.cellsOf e1 = K1) (hpos1:0 < K1) (hK2:P.cellsOf e2 = K2) (hpos2:0 < K2)
  (hv:Value.okWide P w r b0 s v) (h:DataW.Trod enc P w base spare held s v d p) :
  ∃ (A:Option Addr) (n c:Nat) (ns:List Int) (B:Option Addr) (m k:Nat) (ms:List Int) (x y:Int) (E:Option Addr) (a u:Nat) (os:List Int),v = .agg #[.slice A n c,.slice B m k,.int .i64 x,.int .i64 y,.slice E a u] ∧
   Sl w w.heap.size K0 A n c (ns.map (Value.int .i64)) ∧ ns.length = n * K0 ∧ (∀ u ∈ ns,(Lit.int .i64 u).wf = true) ∧
   Sl w w.heap.size K1 B m k (ms.map (Value.int .i64)) ∧ ms.length = m * K1 ∧ (∀ u ∈ ms,(Lit.int .i64 u).wf = true) ∧ (Lit.int .i64 x).wf = true ∧ (Lit.int .i64 y).wf = true ∧
   Sl w w.heap.size K2 E a u (os.map (Value.int .i64)) ∧ os.length = a * K2 ∧ (∀ u ∈ os,(Lit.int .i64 u).wf = true):=by
 simp only [Bool.and_eq_true,beq_iff_eq] at hgo
 obtain ⟨⟨⟨⟨o0,k0⟩,o1⟩,k1⟩,kt⟩:=hgo
 obtain ⟨cs,rfl,hsz⟩:=okWide_struct hss hv
 obtain ⟨fuel,hx⟩:=h
 obtain ⟨y0,y1,n,_,hl,t0,t1⟩:=trod_struct2 hss hx
 rw [o0,k0] at t0
 rw [o1,k1] at t1
 obtain ⟨l⟩:=cs
 rw [kt] at hsz
 have hl2:l.length = 5:=hsz
 match l,hl2 with
 | [c0,c1,c2,c3,c4],_ =>
  change DataW.trod enc P w base spare held n g0.type [c0,c1,c2,c3] = some y0 at t0
  change DataW.trod enc P w base spare held n g1.type [c4] = some y1 at t1
  rw [hgt] at t0
  obtain ⟨A,n0,c,ns,B,m,k,ms,x,y,rfl,rfl,rfl,rfl,r1,r2,r3,r4,r5,r6,r7,r8⟩:=plan_of_trod q hs hfo ht0 ht1 hi2 hi3 hf0 hf1 hK0 hpos0 hK1 hpos1 t0
  obtain ⟨E,a,u,os,j1,j2,j3,j4⟩:=rows_of_trod q ht2 hf2 hK2 hpos2 t1
  injection j1 with j1
  subst j1
  exact ⟨A,n0,c,ns,B,m,k,ms,x,y,E,a,u,os,rfl,r1,r2,r3,r4,r5,r6,r7,r8,j2,j3,j4⟩
end Go.Proofs.YtjldgcebadojiaaGreatDoor
