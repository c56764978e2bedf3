/- What Owlt answers of a right table: the one range that covers. No condition. -/
import Derived.Test.YtolaabllhibkdaaGreatGH
namespace Go.Proofs.YtolaabllhibkdaaGreat.Kr
open Go.ChangeShapes Go.WideShapes Go.ChangeAt Go.RowKit Go.Sort
set_option linter.unusedSimpArgs false
set_option linter.unusedVariables false
def befR (a b:Rg):Prop:=ltR a b ∧ (a.fr = b.fr → a.tn = b.tn → a.en ≤ b.st)
/-- In order, none longer than nothing. -/
structure SortR (d:List Rg):Prop where
 ord:d.Pairwise befR
 span:∀ x ∈ d,x.st < x.en ∧ 0 ≤ x.ow
theorem SortR.filter {d:List Rg} (h:SortR d) (p:Rg → Bool):SortR (d.filter p):=
 ⟨h.ord.filter p,fun x hx => h.span x (List.mem_filter.1 hx).1⟩
theorem rightB_okR {d:List Rg} (h:rightB d = true) {i:Nat} (hi:i < d.length):okR (gRg d i) = true:=by
 have:=(rightB_true.1 h).2 i hi
 unfold stepB at this
 simp at this
 exact this.1
theorem rightB_next {d:List Rg} (h:rightB d = true) {i:Nat} (hi:i + 1 < d.length):befR (gRg d i) (gRg d (i + 1)):=by
 have h0:=(rightB_true.1 h).2 (i + 1) hi
 have h1:=okR_span (rightB_okR h hi)
 have h2:=okR_span (rightB_okR h (i:=i) (by omega))
 unfold stepB at h0
 simp [overR] at h0
 obtain ⟨_,h3,h4⟩:=h0
 rcases cmpR_spec (gRg d i) (gRg d (i + 1)) with ⟨hl,e⟩ | ⟨_,_,_,e⟩ | ⟨_,e⟩
 ·refine ⟨hl,fun e1 e2 => ?_⟩
  unfold ltR at hl
  omega
 ·omega
 ·omega
theorem befR_trans {a b c:Rg} (h1:befR a b) (h2:befR b c) (hb:b.st < b.en):befR a c:=by
 obtain ⟨l1,r1⟩:=h1
 obtain ⟨l2,r2⟩:=h2
 unfold ltR at l1 l2
 refine ⟨by unfold ltR; omega,fun e1 e2 => ?_⟩
 have:=r1 (by omega) (by omega)
 have:=r2 (by omega) (by omega)
 omega
theorem rightB_far {d:List Rg} (h:rightB d = true) {i:Nat}:∀ k,i + 1 + k < d.length → befR (gRg d i) (gRg d (i + 1 + k))
 | 0,hk => rightB_next h hk
 | k + 1,hk => befR_trans (rightB_far h k (by omega)) (rightB_next h (i:=i + 1 + k) (by omega)) (okR_span (rightB_okR h (by omega))).1
theorem gRg_elem {d:List Rg} {j:Nat} (h:j < d.length):gRg d j = d[j]:=by
 unfold gRg
 rw [List.getD_eq_getElem?_getD,List.getElem?_eq_getElem h]
 rfl
theorem sort_of_right {d:List Rg} (h:rightB d = true):SortR d:=by
 refine ⟨?_,fun x hx => ?_⟩
 ·rw [List.pairwise_iff_getElem]
  intro i j hi hj hij
  have:=rightB_far h (i:=i) (j - i - 1) (by omega)
  rw [show i + 1 + (j - i - 1) = j from by omega] at this
  rw [gRg_elem hi,gRg_elem hj] at this
  exact this
 ·obtain ⟨j,hj,rfl⟩:=mem_gRg hx
  exact ⟨(okR_span (rightB_okR h hj)).1,(okR_span (rightB_okR h hj)).2.1⟩
theorem SortR.at_ {d:List Rg} (h:SortR d) {i j:Nat} (hij:i < j) (hj:j < d.length):befR (gRg d i) (gRg d j):=by
 rw [gRg_elem hj,gRg_elem (by omega)]
 exact List.pairwise_iff_getElem.1 h.ord i j (by omega) hj hij
theorem SortR.sp {d:List Rg} (h:SortR d) {j:Nat} (hj:j < d.length):(gRg d j).st < (gRg d j).en ∧ 0 ≤ (gRg d j).ow:=h.span _ (gRg_mem hj)
end Go.Proofs.YtolaabllhibkdaaGreat.Kr
