/- Several texts of mine in one: OpenR, OpenP. No condition. -/
import Derived.Test.YtolaabllhibkdaaGreatGA
import Derived.ChangeSame
import Derived.Lib.SmallJoins

/- An argument that is a struct of a slice of flat structs and an int, opened. No condition. -/
namespace Go.Proofs.YtolaabllhibkdaaGreat
open Go.ChangeShapes Go.WideShapes Go.ChangeAt Go.RowKit Go.Sort
set_option linter.unusedSimpArgs false
set_option linter.unusedVariables false
variable {H:Type} {enc:TypeId × Value → H} {P:Program}
theorem rows_of_trod {w:World} {base:Nat} {spare:Nat → Bool} {held:Bool} {t e:TypeId} {fuel:Nat} {cs:List Value} {x:DataW H × List MemPlace} (q:Nat) {K:Nat} (ht:P.underlying t = some (.slice e)) (hf:flatB P q e = true) (hK:P.cellsOf e = K) (hpos:0 < K)
  (hx:DataW.trod enc P w base spare held fuel t cs = some x) :
  ∃ (A:Option Addr) (n c:Nat) (ns:List Int),cs = [.slice A n c] ∧ Sl w w.heap.size K A n c (ns.map (Value.int .i64)) ∧ ns.length = n * K ∧ ∀ m ∈ ns,(Lit.int .i64 m).wf = true:=by
 subst hK
 rcases Go.Deep.open_slice ht hx with ⟨rfl,_⟩ | ⟨a,n,c,m,q',D,Pl,rfl,hb,hl,hm,hmm,_,hi⟩
 ·exact ⟨none,0,0,[],rfl,Sl.nil0 _ _ _,by simp,by simp⟩
 ·have hnm:n ≤ m:=by rw [hmm]; split <;> omega
  have key:∀ i,i ≤ n → ∃ ns:List Int,ns.length = i * P.cellsOf e ∧ (∀ j u,(ns.map (Value.int .i64))[j]? = some u → w.cell? (a.add j) = some u) ∧ ∀ m ∈ ns,(Lit.int .i64 m).wf = true:=by
   intro i
   induction i with
   | zero => exact fun _ => ⟨[],by simp,by simp,by simp⟩
   | succ i ih =>
    intro hin
    obtain ⟨ns,n1,n2,n3⟩:=ih (by omega)
    obtain ⟨cs',hc,htr⟩:=hi i (by omega)
    obtain ⟨_,hcl,hat⟩:=World.cells?_some hc
    obtain ⟨ms,e1,e2⟩:=ints_of_cells (flat_cell q hf htr)
    refine ⟨ns ++ ms,?_,fun j u hu => ?_,fun x hx => ?_⟩
    ·have hml:ms.length = P.cellsOf e:=by rw [← hcl,e1]; simp
     rw [List.length_append,n1,hml,Nat.add_mul,Nat.one_mul]
    ·rw [List.map_append] at hu
     by_cases hj:j < ns.length
     ·rw [List.getElem?_append_left (by simpa using hj)] at hu
      exact n2 j u hu
     ·rw [List.getElem?_append_right (by simpa using hj)] at hu
      have hjl:j - ns.length < P.cellsOf e:=by
       have:=(List.getElem?_eq_some_iff.1 hu).1
       rw [List.length_map] at this
       rw [← e1,hcl] at this
       simpa using this
      have:=hat (j - ns.length) hjl
      rw [add_plus,n1] at this
      rw [show i * P.cellsOf e + (j - i * P.cellsOf e) = j from by omega] at this
      rw [this,e1,← n1]
      simpa using hu
    ·rcases List.mem_append.1 hx with hx | hx
     ·exact n3 x hx
     ·exact e2 x hx
  obtain ⟨ns,n1,n2,n3⟩:=key n (Nat.le_refl _)
  refine ⟨some a,n,c,ns,rfl,⟨⟨by simpa using n1,fun hn => ⟨a,rfl,?_,n2⟩⟩,hl,hm,fun h => by cases h⟩,n1,n3⟩
  have h0:0 < ns.length:=by rw [n1]; exact Nat.mul_pos hn hpos
  have:=n2 0 (.int .i64 ns[0]) (by simp)
  rw [add_zero_] at this
  exact block_lt_of_cell this
end Go.Proofs.YtolaabllhibkdaaGreat

/- An argument that is a struct of two slices of flat structs and of two ints (api.Plan), opened. No condition. -/
namespace Go.Proofs.YtolaabllhibkdaaGreat
open Go.ChangeShapes Go.WideShapes Go.ChangeAt Go.RowKit Go.Sort
set_option linter.unusedSimpArgs false
set_option linter.unusedVariables false
variable {H:Type} {enc:TypeId × Value → H} {P:Program}
theorem open_plan {w:World} {base b0:Nat} {r:Reach} {spare:Nat → Bool} {held:Bool} {t e0 e1:TypeId} {f0 f1 f2 f3:Field} {v:Value} {d:DataW H} {p:List MemPlace} (q:Nat) {K0 K1:Nat} (hs:P.underlying t = some (.struct #[f0,f1,f2,f3]))
  (hfo:(f0.offset == 0 && P.cellsOf f0.type == 1 && f1.offset == 1 && P.cellsOf f1.type == 1 && f2.offset == 2 && P.cellsOf f2.type == 1 && f3.offset == 3 && P.cellsOf f3.type == 1 && P.cellsOf t == 4) = true)
  (ht0:P.underlying f0.type = some (.slice e0)) (ht1:P.underlying f1.type = some (.slice e1)) (hi2:P.underlying f2.type = some (.int .i64)) (hi3:P.underlying f3.type = some (.int .i64)) (hf0:flatB P q e0 = true) (hf1:flatB P q e1 = true) (hK0:P.cellsOf e0 = K0) (hpos0:0 < K0) (hK1:P.cellsOf e1 = K1) (hpos1:0 < K1)
  (hv:Value.okWide P w r b0 t v) (h:DataW.Trod enc P w base spare held t v d p) :
  ∃ (A:Option Addr) (n c:Nat) (ns:List Int) (B:Option Addr) (m k:Nat) (ms:List Int) (x y:Int),v = .agg #[.slice A n c,.slice B m k,.int .i64 x,.int .i64 y] ∧
   Sl w w.heap.size K0 A n c (ns.map (Value.int .i64)) ∧ ns.length = n * K0 ∧ (∀ u ∈ ns,(Lit.int .i64 u).wf = true) ∧
   Sl w w.heap.size K1 B m k (ms.map (Value.int .i64)) ∧ ms.length = m * K1 ∧ (∀ u ∈ ms,(Lit.int .i64 u).wf = true) ∧ (Lit.int .i64 x).wf = true ∧ (Lit.int .i64 y).wf = true:=by
 simp only [Bool.and_eq_true,beq_iff_eq] at hfo
 obtain ⟨⟨⟨⟨⟨⟨⟨⟨o0,k0⟩,o1⟩,k1⟩,o2⟩,k2⟩,o3⟩,k3⟩,kt⟩:=hfo
 obtain ⟨cs,rfl,hsz⟩:=okWide_struct hs hv
 obtain ⟨fuel,hx⟩:=h
 obtain ⟨y0,y1,y2,y3,n,_,hl,t0,t1,t2,t3⟩:=Go.Joins.trod_struct4 hs hx
 rw [o0,k0] at t0
 rw [o1,k1] at t1
 rw [o2,k2] at t2
 rw [o3,k3] at t3
 obtain ⟨l⟩:=cs
 rw [kt] at hsz
 have hl2:l.length = 4:=hsz
 match l,hl2 with
 | [c0,c1,c2,c3],_ =>
  change DataW.trod enc P w base spare held n f0.type [c0] = some y0 at t0
  change DataW.trod enc P w base spare held n f1.type [c1] = some y1 at t1
  change DataW.trod enc P w base spare held n f2.type [c2] = some y2 at t2
  change DataW.trod enc P w base spare held n f3.type [c3] = some y3 at t3
  obtain ⟨A,n0,c,ns,g1,g2,g3,g4⟩:=rows_of_trod q ht0 hf0 hK0 hpos0 t0
  obtain ⟨B,m,k,ms,j1,j2,j3,j4⟩:=rows_of_trod q ht1 hf1 hK1 hpos1 t1
  obtain ⟨x,h1,_,h3⟩:=DataW.trod_int hi2 t2
  obtain ⟨y,i1,_,i3⟩:=DataW.trod_int hi3 t3
  injection g1 with g1
  injection j1 with j1
  injection h1 with h1
  injection i1 with i1
  subst g1 j1 h1 i1
  exact ⟨A,n0,c,ns,B,m,k,ms,x,y,rfl,g2,g3,g4,j2,j3,j4,h3,i3⟩
end Go.Proofs.YtolaabllhibkdaaGreat
