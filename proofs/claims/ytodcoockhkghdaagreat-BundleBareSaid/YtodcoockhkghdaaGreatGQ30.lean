/- Several texts of mine in one: RangesOw, ContactsMath, ContactsAct, PlanR, RangesRt, Ref06b, Ref07. No condition. -/
import Derived.Test.YtodcoockhkghdaaGreatGQ33
import Derived.Test.YtodcoockhkghdaaGreatGQ3
import Derived.Test.YtodcoockhkghdaaGreatGQ11

/- What Owlt answers of a right table: the one range that covers. No condition. -/
namespace Go.Proofs.YtodcoockhkghdaaGreat.Kr
open Go.ChangeShapes Go.WideShapes Go.ChangeAt Go.RowKit Go.Sort
set_option linter.unusedSimpArgs false
set_option linter.unusedVariables false
def befR (a b:Rg):Prop:=ltR a b ∧ (a.fr = b.fr → a.tn = b.tn → a.en ≤ b.st)
def covR (cf ct cs ce:Int) (x:Rg):Bool:=decide (x.fr = cf ∧ x.tn = ct ∧ x.st ≤ cs ∧ ce ≤ x.en)
/-- In order, none longer than nothing. -/
structure SortR (d:List Rg):Prop where
 ord:d.Pairwise befR
 span:∀ x ∈ d,x.st < x.en ∧ 0 ≤ x.ow
theorem SortR.filter {d:List Rg} (h:SortR d) (p:Rg → Bool):SortR (d.filter p):=
 ⟨h.ord.filter p,fun x hx => h.span x (List.mem_filter.1 hx).1⟩
theorem rightB_okR {d:List Rg} (h:rightB d = true) {i:Nat} (hi:i < d.length):okR (gRg d i) = true:=by
 have:=(rightB_true.1 h).2 i hi
 unfold stepB at this
 simp at this
 exact this.1
theorem rightB_next {d:List Rg} (h:rightB d = true) {i:Nat} (hi:i + 1 < d.length):befR (gRg d i) (gRg d (i + 1)):=by
 have h0:=(rightB_true.1 h).2 (i + 1) hi
 have h1:=okR_span (rightB_okR h hi)
 have h2:=okR_span (rightB_okR h (i:=i) (by omega))
 unfold stepB at h0
 simp [overR] at h0
 obtain ⟨_,h3,h4⟩:=h0
 rcases cmpR_spec (gRg d i) (gRg d (i + 1)) with ⟨hl,e⟩ | ⟨_,_,_,e⟩ | ⟨_,e⟩
 ·refine ⟨hl,fun e1 e2 => ?_⟩
  unfold ltR at hl
  omega
 ·omega
 ·omega
theorem befR_trans {a b c:Rg} (h1:befR a b) (h2:befR b c) (hb:b.st < b.en):befR a c:=by
 obtain ⟨l1,r1⟩:=h1
 obtain ⟨l2,r2⟩:=h2
 unfold ltR at l1 l2
 refine ⟨by unfold ltR; omega,fun e1 e2 => ?_⟩
 have:=r1 (by omega) (by omega)
 have:=r2 (by omega) (by omega)
 omega
theorem rightB_far {d:List Rg} (h:rightB d = true) {i:Nat}:∀ k,i + 1 + k < d.length → befR (gRg d i) (gRg d (i + 1 + k))
 | 0,hk => rightB_next h hk
 | k + 1,hk => befR_trans (rightB_far h k (by omega)) (rightB_next h (i:=i + 1 + k) (by omega)) (okR_span (rightB_okR h (by omega))).1
theorem gRg_elem {d:List Rg} {j:Nat} (h:j < d.length):gRg d j = d[j]:=by
 unfold gRg
 rw [List.getD_eq_getElem?_getD,List.getElem?_eq_getElem h]
 rfl
theorem sort_of_right {d:List Rg} (h:rightB d = true):SortR d:=by
 refine ⟨?_,fun x hx => ?_⟩
 ·rw [List.pairwise_iff_getElem]
  intro i j hi hj hij
  have:=rightB_far h (i:=i) (j - i - 1) (by omega)
  rw [show i + 1 + (j - i - 1) = j from by omega] at this
  rw [gRg_elem hi,gRg_elem hj] at this
  exact this
 ·obtain ⟨j,hj,rfl⟩:=mem_gRg hx
  exact ⟨(okR_span (rightB_okR h hj)).1,(okR_span (rightB_okR h hj)).2.1⟩
theorem SortR.at_ {d:List Rg} (h:SortR d) {i j:Nat} (hij:i < j) (hj:j < d.length):befR (gRg d i) (gRg d j):=by
 rw [gRg_elem hj,gRg_elem (by omega)]
 exact List.pairwise_iff_getElem.1 h.ord i j (by omega) hj hij
theorem SortR.sp {d:List Rg} (h:SortR d) {j:Nat} (hj:j < d.length):(gRg d j).st < (gRg d j).en ∧ 0 ≤ (gRg d j).ow:=h.span _ (gRg_mem hj)
theorem waysI_spec (a:Rg) (cf ct:Int):((a.fr < cf ∨ a.fr = cf ∧ a.tn < ct) ∧ waysI a ⟨cf,ct,0,0,0⟩ = -1) ∨ (a.fr = cf ∧ a.tn = ct ∧ waysI a ⟨cf,ct,0,0,0⟩ = 0) ∨ ((cf < a.fr ∨ a.fr = cf ∧ ct < a.tn) ∧ waysI a ⟨cf,ct,0,0,0⟩ = 1):=by
 unfold waysI
 rcases cmpI_spec a.fr cf with ⟨h1,e1⟩ | ⟨h1,e1⟩ | ⟨h1,e1⟩ <;> rcases cmpI_spec a.tn ct with ⟨h2,e2⟩ | ⟨h2,e2⟩ | ⟨h2,e2⟩ <;>
  simp only [e1,e2,orF] <;> simp <;> omega
theorem passP_iff {d:List Rg} {cf ct ce:Int} {i:Nat}:passP d cf ct ce i = true ↔ (cf < (gRg d i).fr ∨ (gRg d i).fr = cf ∧ ct < (gRg d i).tn) ∨ ((gRg d i).fr = cf ∧ (gRg d i).tn = ct ∧ ce ≤ (gRg d i).en):=by
 unfold passP
 rcases waysI_spec (gRg d i) cf ct with ⟨h1,e1⟩ | ⟨h1,h2,e1⟩ | ⟨h1,e1⟩ <;> rw [e1] <;> simp <;> omega
theorem passP_up {d:List Rg} (h:SortR d) {cf ct ce:Int} {i j:Nat} (hij:i ≤ j) (hj:j < d.length) (hp:passP d cf ct ce i = true):passP d cf ct ce j = true:=by
 rcases Nat.lt_or_eq_of_le hij with hij | rfl
 ·rw [passP_iff] at hp ⊢
  obtain ⟨h1,h2⟩:=h.at_ hij hj
  have h3:=h.sp hj
  unfold ltR at h1
  by_cases e1:(gRg d i).fr = (gRg d j).fr
  ·by_cases e2:(gRg d i).tn = (gRg d j).tn
   ·have:=h2 e1 e2
    omega
   ·omega
  ·omega
 ·exact hp
/-- What a table of ranges tells of a contact: whom it covers, or none. -/
def Tells (d:List Rg) (cf ct cs ce o:Int) (b:Bool):Prop:=
 (b = true ∧ ∃ x ∈ d,covR cf ct cs ce x = true ∧ o = x.ow) ∨ (b = false ∧ o = 0 ∧ ∀ x ∈ d,covR cf ct cs ce x = false)
theorem tells_of {d:List Rg} (h:SortR d) {cf ct cs ce:Int} {n i:Nat} {o:Int} {b:Bool} (hd:d.length = n) (hc:cs < ce) (ha:AskAt d cf ct ce n i) (ho:owR d cf ct cs n i = (o,b)):Tells d cf ct cs ce o b:=by
 obtain ⟨hi,h1,h2⟩:=ha
 unfold owR at ho
 by_cases hg:i = n ∨ waysI (gRg d i) ⟨cf,ct,0,0,0⟩ ≠ 0 ∨ cs < (gRg d i).st
 ·rw [if_pos hg] at ho
  injection ho with e1 e2
  refine .inr ⟨e2.symm,e1.symm,fun x hx => ?_⟩
  obtain ⟨j,hj,rfl⟩:=mem_gRg hx
  cases hcv:covR cf ct cs ce (gRg d j)
  ·rfl
  ·exfalso
   unfold covR at hcv
   rw [decide_eq_true_eq] at hcv
   obtain ⟨c1,c2,c3,c4⟩:=hcv
   have hpj:passP d cf ct ce j = true:=passP_iff.2 (.inr ⟨c1,c2,c4⟩)
   have hij:i ≤ j:=by
    rcases h1 with h1 | h1
    ·omega
    ·by_cases hlt:j < i
     ·rw [passP_up h (by omega:j ≤ i - 1) (by omega) hpj] at h1
      cases h1
     ·omega
   have hin:i < n:=by omega
   have hpi:passP d cf ct ce i = true:=by
    rcases h2 with h2 | h2
    ·omega
    ·exact h2
   rw [passP_iff] at hpi
   rcases Nat.lt_or_eq_of_le hij with hij | rfl
   ·obtain ⟨b1,b2⟩:=h.at_ hij hj
    unfold ltR at b1
    by_cases e1:(gRg d i).fr = (gRg d j).fr
    ·by_cases e2:(gRg d i).tn = (gRg d j).tn
     ·have:=b2 e1 e2
      omega
     ·omega
    ·omega
   ·rcases waysI_spec (gRg d i) cf ct with ⟨g1,e1⟩ | ⟨g1,g2,e1⟩ | ⟨g1,e1⟩ <;> rw [e1] at hg <;> omega
 ·rw [if_neg hg] at ho
  injection ho with e1 e2
  have hin:i < n:=by omega
  have hw:waysI (gRg d i) ⟨cf,ct,0,0,0⟩ = 0:=by
   by_cases e:waysI (gRg d i) ⟨cf,ct,0,0,0⟩ = 0
   ·exact e
   ·exact absurd (.inr (.inl e)) hg
  have hpi:passP d cf ct ce i = true:=by
   rcases h2 with h2 | h2
   ·omega
   ·exact h2
  rw [passP_iff] at hpi
  refine .inl ⟨e2.symm,gRg d i,gRg_mem (by omega),?_,e1.symm⟩
  unfold covR
  rw [decide_eq_true_eq]
  rcases waysI_spec (gRg d i) cf ct with ⟨g1,e1⟩ | ⟨g1,g2,e1⟩ | ⟨g1,e1⟩ <;> omega
/-- One at most covers. -/
theorem cov_one {d:List Rg} (h:SortR d) {cf ct cs ce:Int} (hc:cs < ce) {i j:Nat} (hi:i < d.length) (hj:j < d.length) (h1:covR cf ct cs ce (gRg d i) = true) (h2:covR cf ct cs ce (gRg d j) = true):i = j:=by
 unfold covR at h1 h2
 rw [decide_eq_true_eq] at h1 h2
 rcases Nat.lt_trichotomy i j with hl | e | hl
 ·have:=(h.at_ hl hj).2 (by omega) (by omega)
  omega
 ·exact e
 ·have:=(h.at_ hl hi).2 (by omega) (by omega)
  omega
end Go.Proofs.YtodcoockhkghdaaGreat.Kr

/- Right tables of contacts: their order, who is found, one more, one less. No condition. -/
namespace Go.Proofs.YtodcoockhkghdaaGreat.Kc
open Go.ChangeShapes Go.WideShapes Go.ChangeAt Go.RowKit Go.Sort
set_option linter.unusedSimpArgs false
set_option linter.unusedVariables false
theorem mem_gCo {d:List Co} {y:Co} (h:y ∈ d):∃ j,j < d.length ∧ gCo d j = y:=by
 obtain ⟨j,hj,e⟩:=List.mem_iff_getElem.1 h
 exact ⟨j,hj,by rw [gCo_eq hj,e]⟩
theorem ltC_trans {a b c:Co} (h1:ltC a b) (h2:ltC b c):ltC a c:=by unfold ltC at *; omega
theorem cmpC_lt {a b:Co}:cmpC a b < 0 ↔ ltC a b:=by
 rcases cmpC_spec a b with ⟨h,e⟩ | ⟨h1,h2,h3,h4,e⟩ | ⟨h,e⟩
 ·rw [e]; exact ⟨fun _ => h,fun _ => by omega⟩
 ·rw [e]; unfold ltC; omega
 ·rw [e]; unfold ltC at *; omega
theorem right_step {d:List Co} (h:rightC d = true) {i:Nat} (hi:i < d.length):okC (gCo d i) = true ∧ idIn (d.take i) (gCo d i).id = false ∧ (i ≠ 0 → ltC (gCo d (i - 1)) (gCo d i) ∧ overC (gCo d (i - 1)) (gCo d i) = false):=by
 have:=(rightC_true.1 h).2 i hi
 unfold stepC at this
 simp only [Bool.and_eq_true,Bool.or_eq_true,Bool.not_eq_true',beq_iff_eq,decide_eq_true_eq] at this
 refine ⟨this.1.1,this.1.2,fun h0 => ?_⟩
 rcases this.2 with h1 | ⟨h1,h2⟩
 ·exact absurd h1 h0
 ·exact ⟨cmpC_lt.1 h1,h2⟩
theorem right_ok {d:List Co} (h:rightC d = true):∀ x ∈ d,okC x = true:=fun x hx => by
 obtain ⟨j,hj,rfl⟩:=mem_gCo hx
 exact (right_step h hj).1
theorem right_lt {d:List Co} (h:rightC d = true):∀ (j i:Nat),i < j → j < d.length → ltC (gCo d i) (gCo d j)
 | 0,i,h1,_ => by omega
 | j + 1,i,h1,h2 => by
  have hs:=((right_step h h2).2.2 (by omega)).1
  rw [Nat.add_sub_cancel] at hs
  by_cases e:i = j
  ·rw [e]; exact hs
  ·exact ltC_trans (right_lt h j i (by omega) (by omega)) hs
theorem right_ids {d:List Co} (h:rightC d = true) {i j:Nat} (hij:i < j) (hj:j < d.length):(gCo d i).id ≠ (gCo d j).id:=by
 have h1:=(right_step h hj).2.1
 unfold idIn at h1
 rw [List.any_eq_false] at h1
 intro e
 exact h1 (gCo d i) (by rw [gCo_eq (by omega:i < d.length)]; exact List.mem_take_iff_getElem.2 ⟨i,by omega,rfl⟩) (by simp [e])
end Go.Proofs.YtodcoockhkghdaaGreat.Kc

/- What is right stays right; Add, Delete, Change and Find of a right table, in one form. No condition. -/
namespace Go.Proofs.YtodcoockhkghdaaGreat.Kc
open Go.ChangeShapes Go.WideShapes Go.ChangeAt Go.RowKit Go.Sort
set_option linter.unusedSimpArgs false
set_option linter.unusedVariables false
theorem okC_span {x:Co} (h:okC x = true):x.st < x.en:=by
 unfold okC contactB spanB at h
 simp only [Bool.and_eq_true,decide_eq_true_eq] at h
 omega
def befC (a b:Co):Prop:=ltC a b ∧ a.id ≠ b.id ∧ (a.fr = b.fr → a.tn = b.tn → a.en ≤ b.st)
theorem over_bef {a b:Co} (ha:okC a = true) (hb:okC b = true) (hl:ltC a b) (ho:overC a b = false):a.fr = b.fr → a.tn = b.tn → a.en ≤ b.st:=by
 have h1:=okC_span ha
 have h2:=okC_span hb
 unfold overC at ho
 rw [decide_eq_false_iff_not] at ho
 unfold ltC at hl
 intro e1 e2
 by_cases hx:a.en ≤ b.st
 ·exact hx
 ·exact absurd ⟨e1,e2,by omega,by omega⟩ ho
theorem right_bef {d:List Co} (h:rightC d = true):∀ (j i:Nat),i < j → j < d.length → befC (gCo d i) (gCo d j)
 | 0,i,h1,_ => by omega
 | j + 1,i,h1,h2 => by
  have hs:=(right_step h h2).2.2 (by omega)
  rw [Nat.add_sub_cancel] at hs
  have hok1:=(right_step h h2).1
  have hok2:=(right_step h (by omega:j < d.length)).1
  have hn:=over_bef hok2 hok1 hs.1 hs.2
  have hid:=right_ids h h1 h2
  refine ⟨right_lt h _ _ h1 h2,hid,?_⟩
  by_cases e:i = j
  ·rw [e]; exact hn
  ·have hp:=right_bef h j i (by omega) (by omega)
   intro e1 e2
   have hl1:=hp.1
   have hl2:=hs.1
   have s1:=okC_span hok2
   have f1:(gCo d i).fr = (gCo d j).fr:=by unfold ltC at hl1 hl2; omega
   have f2:(gCo d i).tn = (gCo d j).tn:=by unfold ltC at hl1 hl2; omega
   have g1:=hp.2.2 f1 f2
   have g2:=hn (by omega) (by omega)
   omega
/-- Who is found by an ID. -/
def foundC (d:List Co) (id:Int):Co:=(d.find? (fun x => x.id == id)).getD ⟨0,0,0,0,0,0⟩
theorem found_mem {d:List Co} {id:Int} (h:idIn d id = true):foundC d id ∈ d ∧ (foundC d id).id = id:=by
 unfold foundC
 cases e:d.find? (fun x => x.id == id) with
 | none =>
  rw [List.find?_eq_none] at e
  unfold idIn at h
  obtain ⟨x,hx,hx2⟩:=List.any_eq_true.1 h
  exact absurd hx2 (e x hx)
 | some y =>
  exact ⟨List.mem_of_find?_eq_some e,by simpa using List.find?_some e⟩
theorem idIn_mem {d:List Co} {x:Co} (h:x ∈ d):idIn d x.id = true:=List.any_eq_true.2 ⟨x,h,by simp⟩
theorem found_of {d:List Co} {x:Co} (h:rightC d = true) (hx:x ∈ d):foundC d x.id = x:=by
 obtain ⟨h1,h2⟩:=found_mem (idIn_mem hx)
 obtain ⟨i,hi,e1⟩:=mem_gCo h1
 obtain ⟨j,hj,e2⟩:=mem_gCo hx
 rw [← e1,← e2] at h2
 by_cases e:i = j
 ·rw [← e1,← e2,e]
 ·rcases Nat.lt_or_gt_of_ne e with hlt | hlt
  ·exact absurd h2 (right_ids h hlt hj)
  ·exact absurd h2.symm (right_ids h hlt hi)
end Go.Proofs.YtodcoockhkghdaaGreat.Kc

/- Contracts of plan.Right and of Few. They make new memory alone. -/
namespace Go.Proofs.YtodcoockhkghdaaGreat
open Go.ChangeShapes Go.WideShapes Go.ChangeAt Go.RowKit Go.Sort
set_option linter.unusedSimpArgs false
set_option linter.unusedVariables false
def aheadC (cs:List Co) (clk:Int):Bool:=!cs.any fun x => decide (x.en ≤ clk)
def aheadR (rs:List Rg) (clk:Int):Bool:=!rs.any fun x => decide (x.en ≤ clk)
def rightP (cs:List Co) (rs:List Rg) (clk ver:Int):Bool:=
 Kc.rightC cs && (Kr.rightB rs && (inB clk 0 2147483647 && (inB ver 0 1099511627776 && (aheadC cs clk && aheadR rs clk))))
structure RightP (cs:List Co) (rs:List Rg) (clk ver:Int):Prop where
 co:Kc.rightC cs = true
 rg:Kr.rightB rs = true
 c0:0 ≤ clk
 c1:clk ≤ 2147483647
 v0:0 ≤ ver
 v1:ver ≤ 1099511627776
 ec:∀ x ∈ cs,clk < x.en
 er:∀ x ∈ rs,clk < x.en
theorem rightP_spec {cs:List Co} {rs:List Rg} {clk ver:Int}:rightP cs rs clk ver = true ↔ RightP cs rs clk ver:=by
 unfold rightP aheadC aheadR inB
 constructor
 ·intro h
  simp only [Bool.and_eq_true,decide_eq_true_eq,Bool.not_eq_true',List.any_eq_false,Int.not_le] at h
  obtain ⟨h1,h2,h3,h4,h5,h6⟩:=h
  exact ⟨h1,h2,h3.1,h3.2,h4.1,h4.2,h5,h6⟩
 ·intro h
  simp only [Bool.and_eq_true,decide_eq_true_eq,Bool.not_eq_true',List.any_eq_false,Int.not_le]
  exact ⟨h.co,h.rg,⟨h.c0,h.c1⟩,⟨h.v0,h.v1⟩,h.ec,h.er⟩
end Go.Proofs.YtodcoockhkghdaaGreat

/- What is right stays right: a filter, a new owlt, one more. No condition. -/
namespace Go.Proofs.YtodcoockhkghdaaGreat.Kr
open Go.ChangeShapes Go.WideShapes Go.ChangeAt Go.RowKit Go.Sort
set_option linter.unusedSimpArgs false
set_option linter.unusedVariables false
theorem right_ok {d:List Rg} (h:rightB d = true):∀ x ∈ d,okR x = true:=fun x hx => by
 obtain ⟨j,hj,rfl⟩:=mem_gRg hx
 exact rightB_okR h hj
end Go.Proofs.YtodcoockhkghdaaGreat.Kr

/- The document's own contacts: which stands ahead, Compare, overlap, Find. -/
namespace Go.Proofs.YtodcoockhkghdaaGreat.Kc
open Go.ChangeShapes Go.WideShapes Go.ChangeAt Go.RowKit Go.Sort
set_option linter.unusedSimpArgs false
set_option linter.unusedVariables false
set_option maxHeartbeats 1000000 in
set_option maxRecDepth 100000 in
theorem rless_any (a b:Co) (v:Bool) (hv:decide (cmpC a b < 0) = v) (w:World):Calls Tryz.prog 100 #[.agg #[.int .i64 a.id,.int .i64 a.fr,.int .i64 a.tn,.int .i64 a.st,.int .i64 a.en,.int .i64 a.rt],.agg #[.int .i64 b.id,.int .i64 b.fr,.int .i64 b.tn,.int .i64 b.st,.int .i64 b.en,.int .i64 b.rt]] w fun e w' => e = .returned (.bool v) ∧ Below w.heap.size w w':=by
 have hB:Below w.heap.size w ((w.alloc (.cells #[.int .i64 a.id,.int .i64 a.fr,.int .i64 a.tn,.int .i64 a.st,.int .i64 a.en,.int .i64 a.rt] 59)).alloc (.cells #[.int .i64 b.id,.int .i64 b.fr,.int .i64 b.tn,.int .i64 b.st,.int .i64 b.en,.int .i64 b.rt] 59)):=by (repeat (first | exact Below.refl _ _ | refine Below.alloc ?_ (by first | omega | (simp; done) | (simp; omega)) _ | refine Below.setCell ?_ (by first | omega | (simp; done) | (simp; omega)) _ | refine Below.drew ?_))
 have hlt:v = true ↔ ltC a b:=by rw [← hv,decide_eq_true_eq]; exact cmpC_lt
 have HV:=Lib.hid hlt
 clear hv hlt
 by_cases h1:a.fr = b.fr
 ·have d1:(a.fr != b.fr) = false:=by simp [h1]
  by_cases h2:a.tn = b.tn
  ·have d2:(a.tn != b.tn) = false:=by simp [h2]
   by_cases h3:a.st = b.st
   ·have d3:(a.st != b.st) = false:=by simp [h3]
    have hr:v = decide (a.id < b.id):=by rw [Bool.eq_iff_iff,HV.out,decide_eq_true_eq]; unfold ltC; omega
    have HR:=Lib.hid hr
    clear hr h1 h2 h3
    go_enter Tryz.func100,Tryz.ntmps100
    go_wp2
    go_ret
    exact ⟨by rw [HR.out]; rfl,hB⟩
   ·have d3:(a.st != b.st) = true:=by simp [h3]
    have hr:v = decide (a.st < b.st):=by rw [Bool.eq_iff_iff,HV.out,decide_eq_true_eq]; unfold ltC; omega
    have HR:=Lib.hid hr
    clear hr h1 h2 h3
    go_enter Tryz.func100,Tryz.ntmps100
    go_wp2
    go_ret
    exact ⟨by rw [HR.out]; rfl,hB⟩
  ·have d2:(a.tn != b.tn) = true:=by simp [h2]
   have hr:v = decide (a.tn < b.tn):=by rw [Bool.eq_iff_iff,HV.out,decide_eq_true_eq]; unfold ltC; omega
   have HR:=Lib.hid hr
   clear hr h1 h2
   go_enter Tryz.func100,Tryz.ntmps100
   go_wp2
   go_ret
   exact ⟨by rw [HR.out]; rfl,hB⟩
 ·have d1:(a.fr != b.fr) = true:=by simp [h1]
  have hr:v = decide (a.fr < b.fr):=by rw [Bool.eq_iff_iff,HV.out,decide_eq_true_eq]; unfold ltC; omega
  have HR:=Lib.hid hr
  clear hr h1
  go_enter Tryz.func100,Tryz.ntmps100
  go_wp2
  go_ret
  exact ⟨by rw [HR.out]; rfl,hB⟩
set_option maxHeartbeats 1000000 in
set_option maxRecDepth 100000 in
theorem roverlap_any (a b:Co) (v:Bool) (hv:overC a b = v) (w:World):Calls Tryz.prog 101 #[.agg #[.int .i64 a.id,.int .i64 a.fr,.int .i64 a.tn,.int .i64 a.st,.int .i64 a.en,.int .i64 a.rt],.agg #[.int .i64 b.id,.int .i64 b.fr,.int .i64 b.tn,.int .i64 b.st,.int .i64 b.en,.int .i64 b.rt]] w fun e w' => e = .returned (.bool v) ∧ Below w.heap.size w w':=by
 have hB:Below w.heap.size w ((w.alloc (.cells #[.int .i64 a.id,.int .i64 a.fr,.int .i64 a.tn,.int .i64 a.st,.int .i64 a.en,.int .i64 a.rt] 59)).alloc (.cells #[.int .i64 b.id,.int .i64 b.fr,.int .i64 b.tn,.int .i64 b.st,.int .i64 b.en,.int .i64 b.rt] 59)):=by (repeat (first | exact Below.refl _ _ | refine Below.alloc ?_ (by first | omega | (simp; done) | (simp; omega)) _ | refine Below.setCell ?_ (by first | omega | (simp; done) | (simp; omega)) _ | refine Below.drew ?_))
 have HV:=Lib.hid hv
 clear hv
 by_cases h1:a.fr = b.fr <;> by_cases h2:a.tn = b.tn <;> by_cases h3:a.st < b.en <;> by_cases h4:b.st < a.en
 all_goals
  have hr:v = decide (a.fr = b.fr ∧ a.tn = b.tn ∧ a.st < b.en ∧ b.st < a.en):=HV.out.symm
  simp only [h1,h2,h3,h4,and_true,and_false,and_self,decide_true,decide_false,false_and,true_and] at hr
  have d1:(a.fr == b.fr) = decide (a.fr = b.fr):=by rw [Bool.eq_iff_iff]; simp
  have d2:(a.tn == b.tn) = decide (a.tn = b.tn):=by rw [Bool.eq_iff_iff]; simp
  obtain ⟨p3,d3⟩:∃ p,decide (a.st < b.en) = p:=⟨_,rfl⟩
  obtain ⟨p4,d4⟩:∃ p,decide (b.st < a.en) = p:=⟨_,rfl⟩
  have e3:=d3
  have e4:=d4
  simp only [h1,h2,decide_true,decide_false] at d1 d2
  simp only [h3,h4,decide_true,decide_false] at e3 e4
  subst e3 e4
  have HR:=Lib.hid hr
  have H1:=Lib.hid h1
  have H2:=Lib.hid h2
  clear hr h1 h2 h3 h4
  go_enter Tryz.func101,Tryz.ntmps101
  go_wp2
  go_ret
  have h1:=H1.out
  have h2:=H2.out
  exact ⟨by rw [HR.out]; first | rfl | simp [*],by first | exact hB | (rw [h1] at hB; exact hB) | (rw [h2] at hB; exact hB) | (rw [h1,h2] at hB; exact hB)⟩
end Go.Proofs.YtodcoockhkghdaaGreat.Kc

/- The document's own ranges: which stands ahead, overlap, Right, Owlt. -/
namespace Go.Proofs.YtodcoockhkghdaaGreat.Kr
open Go.ChangeShapes Go.WideShapes Go.ChangeAt Go.RowKit Go.Sort
set_option linter.unusedSimpArgs false
set_option linter.unusedVariables false
set_option maxHeartbeats 1000000 in
set_option maxRecDepth 100000 in
theorem rless_any (a b : Rg) (v : Bool) (hv : decide (cmpR a b < 0) = v) (w : World) : Calls Tryz.prog 103 #[.agg #[.int .i64 a.fr, .int .i64 a.tn, .int .i64 a.st, .int .i64 a.en, .int .i64 a.ow], .agg #[.int .i64 b.fr, .int .i64 b.tn, .int .i64 b.st, .int .i64 b.en, .int .i64 b.ow]] w fun e w' => e = .returned (.bool v) ∧ Below w.heap.size w w' := by
  have hB : Below w.heap.size w ((w.alloc (.cells #[.int .i64 a.fr, .int .i64 a.tn, .int .i64 a.st, .int .i64 a.en, .int .i64 a.ow] 100)).alloc (.cells #[.int .i64 b.fr, .int .i64 b.tn, .int .i64 b.st, .int .i64 b.en, .int .i64 b.ow] 100)) := by (repeat (first | exact Below.refl _ _ | refine Below.alloc ?_ (by first | omega | (simp; done) | (simp; omega)) _ | refine Below.setCell ?_ (by first | omega | (simp; done) | (simp; omega)) _ | refine Below.drew ?_))
  have hlt : v = true ↔ ltR a b := by
    rw [← hv, decide_eq_true_eq]
    rcases cmpR_spec a b with h | h | h
    · exact ⟨fun _ => h.1, fun _ => by omega⟩
    · refine ⟨fun h2 => by omega, fun h2 => ?_⟩
      unfold ltR at h2; omega
    · refine ⟨fun h2 => by omega, fun h2 => ?_⟩
      have h3 := h.1
      unfold ltR at h2 h3; omega
  have HV := Lib.hid hlt
  clear hv hlt
  by_cases h1 : a.fr = b.fr
  · have d1 : (a.fr != b.fr) = false := by simp [h1]
    by_cases h2 : a.tn = b.tn
    · have d2 : (a.tn != b.tn) = false := by simp [h2]
      have hr : v = decide (a.st < b.st) := by rw [Bool.eq_iff_iff, HV.out, decide_eq_true_eq]; unfold ltR; omega
      have HR := Lib.hid hr
      clear hr h1 h2
      go_enter Tryz.func103, Tryz.ntmps103
      go_wp2
      go_ret
      exact ⟨by rw [HR.out]; rfl, hB⟩
    · have d2 : (a.tn != b.tn) = true := by simp [h2]
      have hr : v = decide (a.tn < b.tn) := by rw [Bool.eq_iff_iff, HV.out, decide_eq_true_eq]; unfold ltR; omega
      have HR := Lib.hid hr
      clear hr h1 h2
      go_enter Tryz.func103, Tryz.ntmps103
      go_wp2
      go_ret
      exact ⟨by rw [HR.out]; rfl, hB⟩
  · have d1 : (a.fr != b.fr) = true := by simp [h1]
    have hr : v = decide (a.fr < b.fr) := by rw [Bool.eq_iff_iff, HV.out, decide_eq_true_eq]; unfold ltR; omega
    have HR := Lib.hid hr
    clear hr h1
    go_enter Tryz.func103, Tryz.ntmps103
    go_wp2
    go_ret
    exact ⟨by rw [HR.out]; rfl, hB⟩
set_option maxHeartbeats 1000000 in
set_option maxRecDepth 100000 in
theorem roverlap_any (a b : Rg) (v : Bool) (hv : overR a b = v) (w : World) : Calls Tryz.prog 104 #[.agg #[.int .i64 a.fr, .int .i64 a.tn, .int .i64 a.st, .int .i64 a.en, .int .i64 a.ow], .agg #[.int .i64 b.fr, .int .i64 b.tn, .int .i64 b.st, .int .i64 b.en, .int .i64 b.ow]] w fun e w' => e = .returned (.bool v) ∧ Below w.heap.size w w' := by
  have hB : Below w.heap.size w ((w.alloc (.cells #[.int .i64 a.fr, .int .i64 a.tn, .int .i64 a.st, .int .i64 a.en, .int .i64 a.ow] 100)).alloc (.cells #[.int .i64 b.fr, .int .i64 b.tn, .int .i64 b.st, .int .i64 b.en, .int .i64 b.ow] 100)) := by (repeat (first | exact Below.refl _ _ | refine Below.alloc ?_ (by first | omega | (simp; done) | (simp; omega)) _ | refine Below.setCell ?_ (by first | omega | (simp; done) | (simp; omega)) _ | refine Below.drew ?_))
  have HV := Lib.hid hv
  clear hv
  by_cases h1 : a.fr = b.fr <;> by_cases h2 : a.tn = b.tn <;> by_cases h3 : a.st < b.en <;> by_cases h4 : b.st < a.en
  all_goals
    have hr : v = decide (a.fr = b.fr ∧ a.tn = b.tn ∧ a.st < b.en ∧ b.st < a.en) := HV.out.symm
    simp only [h1, h2, h3, h4, and_true, and_false, and_self, decide_true, decide_false, false_and, true_and] at hr
    have d1 : (a.fr == b.fr) = decide (a.fr = b.fr) := by rw [Bool.eq_iff_iff]; simp
    have d2 : (a.tn == b.tn) = decide (a.tn = b.tn) := by rw [Bool.eq_iff_iff]; simp
    obtain ⟨p3, d3⟩ : ∃ p, decide (a.st < b.en) = p := ⟨_, rfl⟩
    obtain ⟨p4, d4⟩ : ∃ p, decide (b.st < a.en) = p := ⟨_, rfl⟩
    have e3 := d3
    have e4 := d4
    simp only [h1, h2, decide_true, decide_false] at d1 d2
    simp only [h3, h4, decide_true, decide_false] at e3 e4
    subst e3 e4
    have HR := Lib.hid hr
    have H1 := Lib.hid h1
    have H2 := Lib.hid h2
    clear hr h1 h2 h3 h4
    go_enter Tryz.func104, Tryz.ntmps104
    go_wp2
    go_ret
    have h1 := H1.out
    have h2 := H2.out
    exact ⟨by rw [HR.out]; first | rfl | simp [*], by first | exact hB | (rw [h1] at hB; exact hB) | (rw [h2] at hB; exact hB) | (rw [h1, h2] at hB; exact hB)⟩
/-- What the document's Right asks of two places. -/
def pairR (d : List Rg) (i k : Nat) : Bool := !overR (gRg d k) (gRg d i)
def rstR (d : List Rg) (i : Nat) : Bool := okR (gRg d i) && (i == 0 || decide (cmpR (gRg d (i - 1)) (gRg d i) < 0)) && (List.range i).all (pairR d i)
theorem rst_of_right {d : List Rg} (h : rightB d = true) {i : Nat} (hi : i < d.length) : rstR d i = true := by
  have hs := (rightB_true.1 h).2 i hi
  unfold stepB at hs
  rw [Bool.and_eq_true] at hs
  unfold rstR
  rw [hs.1, Bool.true_and, Bool.and_eq_true, List.all_eq_true]
  refine ⟨?_, fun k hk => ?_⟩
  · by_cases h0 : i = 0
    · simp [h0]
    · have h2 := hs.2
      simp [h0] at h2
      simp [h2.1]
  · have hb := (sort_of_right h).at_ (List.mem_range.1 hk) hi
    unfold pairR overR
    rw [Bool.not_eq_true', decide_eq_false_iff_not]
    rintro ⟨e1, e2, e3, e4⟩
    have := hb.2 e1 e2
    omega
theorem right_of_rst {d : List Rg} (hn : d.length ≤ 4096) (h : ∀ i, i < d.length → rstR d i = true) : rightB d = true := by
  rw [rightB_true]
  refine ⟨hn, fun i hi => ?_⟩
  have h0 := h i hi
  unfold rstR at h0
  rw [Bool.and_eq_true, Bool.and_eq_true, List.all_eq_true] at h0
  obtain ⟨⟨h1, h2⟩, h3⟩ := h0
  unfold stepB
  rw [h1, Bool.true_and]
  by_cases hz : i = 0
  · simp [hz]
  · have hp := h3 (i - 1) (List.mem_range.2 (by omega))
    unfold pairR at hp
    have hl : decide (cmpR (gRg d (i - 1)) (gRg d i) < 0) = true := by simpa [hz] using h2
    rw [hl, hp]
    simp
theorem right_false_rst {d : List Rg} {i : Nat} (hi : i < d.length) (h : rstR d i = false) : rightB d = false := by
  rw [Bool.eq_false_iff]
  intro e
  rw [rst_of_right e hi] at h
  cases h
theorem rst_pair {d : List Rg} {i k : Nat} (hk : k < i) (h : pairR d i k = false) : rstR d i = false := by
  rw [Bool.eq_false_iff]
  intro e
  unfold rstR at e
  rw [Bool.and_eq_true, List.all_eq_true] at e
  rw [e.2 k (List.mem_range.2 hk)] at h
  cases h
theorem rrange_b {fr tn st en ow : Int} (b : Bool) (h : rangeB fr tn st en ow = b) (w : World) :
    Calls Tryz.prog 102 #[.agg #[.int .i64 fr, .int .i64 tn, .int .i64 st, .int .i64 en, .int .i64 ow]] w fun e w' => e = .returned (.bool b) ∧ Below w.heap.size w w' := h ▸ rrange_any fr tn st en ow w
set_option maxHeartbeats 8000000 in
set_option maxRecDepth 100000 in
theorem rright7_any (A : Option Addr) (n c : Nat) (d : List Rg) (w : World) (hd : d.length = n) (hn : n ≤ 1000000) (h : Sl w w.heap.size 5 A n c (flatRg d)) (b : Bool) (hb : rightB d = b) :
    Calls Tryz.prog 64 #[.slice A n c] w fun e w' => e = .returned (.bool b) ∧ Below w.heap.size w w' := by
  have HD := Lib.hid hd
  have HL := Lib.hid h
  have HB := Lib.hid hb
  clear hd h hb
  go_enter Tryz.func64, Tryz.ntmps64
  go_wp2
  go_loopw [3] (fun iv wr => ∃ i : Nat, iv = .int .i64 i ∧ i ≤ n ∧ Hid (∀ j, j < i → rstR d j = true) ∧ Below w.heap.size w wr) (fun iv _ => n - (intOf iv).toNat)
  case atStart => exact ⟨0, rfl, by omega, (fun j hj => by omega), Below.refl _ _⟩
  case round =>
    obtain ⟨i, rfl, hi, HQ, hB⟩ := hrel
    by_cases hin : i < n
    · obtain ⟨ad, rfl, hab, c0, c1, c2, c3, c4⟩ := (HL.out.below hB).lst.atRg HD.out hin
      obtain ⟨x, hx⟩ : ∃ x, gRg d i = x := ⟨_, rfl⟩
      rw [hx] at c0 c1 c2 c3 c4
      have HX := Lib.hid hx
      have hs := hB.size
      clear hx
      obtain ⟨ok, hok⟩ : ∃ ok, okR x = ok := ⟨_, rfl⟩
      have HOK := Lib.hid hok
      clear hok
      go_wp2_with fail
      refine (rrange_b ok (show rangeB x.fr x.tn x.st x.en x.ow = ok from HOK.out) wr).mono ?_
      rintro e w3 ⟨rfl, hb3⟩
      replace hB := hB.trans (hb3.mono hs)
      clear hb3 hs c0 c1 c2 c3 c4
      have hs := hB.size
      obtain ⟨ae, he, _, c0, c1, c2, c3, c4⟩ := (HL.out.below hB).lst.atRg HD.out hin
      injection he with he
      subst he
      rw [HX.out] at c0 c1 c2 c3 c4
      cases ok
      · have hf : b = false := by rw [← HB.out]; exact right_false_rst (i := i) (by rw [HD.out]; exact hin) (by unfold rstR; rw [HX.out, HOK.out]; rfl)
        have HF := Lib.hid hf
        clear hf
        go_wp2_with fail
        have q_c0 := fun d os => cell_regrown c0 d os
        have q_c1 := fun d os => cell_regrown c1 d os
        have q_c2 := fun d os => cell_regrown c2 d os
        have q_c3 := fun d os => cell_regrown c3 d os
        have q_c4 := fun d os => cell_regrown c4 d os
        try simp only [List.append]
        first | refine wp_region_text_below ?_ | refine wp_region_quiet_below (by kernel_rfl) (by kernel_rfl) ?_
        repeat (go_big_quiet_step ((fail)))
        refine wpQuiet_nil ?_
        intro _ hqw
        obtain ⟨pq, hqw⟩ := hqw
        subst hqw
        clear q_c0 q_c1 q_c2 q_c3 q_c4
        have hbq := hB.trans ((below_regrown w3 pq.d pq.os).mono hB.size)
        clear c0 c1 c2 c3 c4
        generalize grow (redrawn w3 pq.d) pq.os = wq at *
        go_wp2_with fail
        go_ret
        exact ⟨by rw [HF.out]; rfl, hbq⟩
      · have hcase : i = 0 ∨ ∃ p, i = p + 1 := by cases i with | zero => exact .inl rfl | succ p => exact .inr ⟨p, rfl⟩
        rcases hcase with rfl | ⟨p, rfl⟩
        · have hd0 : decide (((0 : Nat) : Int) > 0) = false := by simp
          have HST : Hid (rstR d 0 = true) := by
            show rstR d 0 = true
            unfold rstR; rw [HX.out, HOK.out]; rfl
          try simp only [Int.natCast_zero]
          go_wp2_with fail
          have q_c0 := fun d os => cell_regrown c0 d os
          have q_c1 := fun d os => cell_regrown c1 d os
          have q_c2 := fun d os => cell_regrown c2 d os
          have q_c3 := fun d os => cell_regrown c3 d os
          have q_c4 := fun d os => cell_regrown c4 d os
          try simp only [List.append]
          first | refine wp_region_text_below ?_ | refine wp_region_quiet_below (by kernel_rfl) (by kernel_rfl) ?_
          repeat (go_big_quiet_step ((fail)))
          refine wpQuiet_nil ?_
          intro _ hqw
          obtain ⟨pq, hqw⟩ := hqw
          subst hqw
          clear q_c0 q_c1 q_c2 q_c3 q_c4
          have hbq := hB.trans ((below_regrown w3 pq.d pq.os).mono hB.size)
          clear c0 c1 c2 c3 c4
          generalize grow (redrawn w3 pq.d) pq.os = wq at *
          go_wp2_with fail
          go_loopw [5] (fun kv wx => kv = .int .i64 0 ∧ wq = wx) (fun _ _ => 1)
          case atStart => exact ⟨rfl, rfl⟩
          case round =>
            obtain ⟨rfl, rfl⟩ := hrel
            go_wp2_with fail
            go_roundw
            case rel => exact ⟨1, by go_num, by omega, (fun j hj => by obtain rfl : j = 0 := by omega
                                                                       exact HST.out), hbq⟩
            case measure => simp [intOf]; omega
        · have hpn : p < n := by omega
          obtain ⟨af, hf, _, p0, p1, p2, p3, p4⟩ := (HL.out.below hB).lst.atRg HD.out hpn
          injection hf with hf
          subst hf
          obtain ⟨y, hy⟩ : ∃ y, gRg d p = y := ⟨_, rfl⟩
          rw [hy] at p0 p1 p2 p3 p4
          have HY := Lib.hid hy
          have hwr : IntKind.i64.wrap (((p + 1 : Nat) : Int) - 1) = (p : Int) := by rw [show ((p + 1 : Nat) : Int) - 1 = (p : Int) by omega]; exact IntWalk.i64_in _ (by omega)
          have hwr2 : IntKind.i64.wrap ((p : Int) + 1 - 1) = (p : Int) := by rw [show (p : Int) + 1 - 1 = (p : Int) by omega]; exact IntWalk.i64_in _ (by omega)
          have hgt : decide ((((p + 1 : Nat)) : Int) > 0) = true := decide_eq_true (by omega)
          have hpI : (p : Int) < (n : Int) := by omega
          have hp0 : (0 : Int) ≤ (p : Int) := by omega
          obtain ⟨lt, hlt⟩ : ∃ lt, decide (cmpR y x < 0) = lt := ⟨_, rfl⟩
          have HLT := Lib.hid hlt
          clear hy hlt
          cases lt
          · have hf : b = false := by rw [← HB.out]; exact right_false_rst (i := p + 1) (by rw [HD.out]; exact hin) (by unfold rstR; rw [HX.out, HOK.out, Nat.add_sub_cancel, HY.out, HLT.out]; rfl)
            have HF := Lib.hid hf
            clear hf
            go_wp2_with fail
            have q_c0 := fun d os => cell_regrown c0 d os
            have q_c1 := fun d os => cell_regrown c1 d os
            have q_c2 := fun d os => cell_regrown c2 d os
            have q_c3 := fun d os => cell_regrown c3 d os
            have q_c4 := fun d os => cell_regrown c4 d os
            have q_p0 := fun d os => cell_regrown p0 d os
            have q_p1 := fun d os => cell_regrown p1 d os
            have q_p2 := fun d os => cell_regrown p2 d os
            have q_p3 := fun d os => cell_regrown p3 d os
            have q_p4 := fun d os => cell_regrown p4 d os
            try simp only [List.append]
            first | refine wp_region_text_below ?_ | refine wp_region_quiet_below (by kernel_rfl) (by kernel_rfl) ?_
            repeat (go_big_quiet_step (((go_at_call 103; with_reducible exact Calls.regrown_of (rless_any y x _ HLT.out _)))))
            refine wpQuiet_nil ?_
            intro _ hqw
            obtain ⟨pq, hqw⟩ := hqw
            subst hqw
            clear q_c0 q_c1 q_c2 q_c3 q_c4 q_p0 q_p1 q_p2 q_p3 q_p4
            have hbq := hB.trans ((below_regrown w3 pq.d pq.os).mono hB.size)
            clear c0 c1 c2 c3 c4 p0 p1 p2 p3 p4
            generalize grow (redrawn w3 pq.d) pq.os = wq at *
            go_wp2_with fail
            go_ret
            exact ⟨by rw [HF.out]; rfl, hbq⟩
          · have HP1 : Hid (∀ k : Nat, (∀ j, j < p + 1 → pairR d (p + 1) j = true) → rstR d (p + 1) = true) := fun _ hh => by
              unfold rstR
              rw [HX.out, HOK.out, Nat.add_sub_cancel, HY.out, HLT.out]
              rw [Bool.and_eq_true, List.all_eq_true]
              exact ⟨by simp, fun k hk => hh k (List.mem_range.1 hk)⟩
            go_wp2_with fail
            have q_c0 := fun d os => cell_regrown c0 d os
            have q_c1 := fun d os => cell_regrown c1 d os
            have q_c2 := fun d os => cell_regrown c2 d os
            have q_c3 := fun d os => cell_regrown c3 d os
            have q_c4 := fun d os => cell_regrown c4 d os
            have q_p0 := fun d os => cell_regrown p0 d os
            have q_p1 := fun d os => cell_regrown p1 d os
            have q_p2 := fun d os => cell_regrown p2 d os
            have q_p3 := fun d os => cell_regrown p3 d os
            have q_p4 := fun d os => cell_regrown p4 d os
            try simp only [List.append]
            first | refine wp_region_text_below ?_ | refine wp_region_quiet_below (by kernel_rfl) (by kernel_rfl) ?_
            repeat (go_big_quiet_step (((go_at_call 103; with_reducible exact Calls.regrown_of (rless_any y x _ HLT.out _)))))
            refine wpQuiet_nil ?_
            intro _ hqw
            obtain ⟨pq, hqw⟩ := hqw
            subst hqw
            clear q_c0 q_c1 q_c2 q_c3 q_c4 q_p0 q_p1 q_p2 q_p3 q_p4
            have hbq := hB.trans ((below_regrown w3 pq.d pq.os).mono hB.size)
            clear c0 c1 c2 c3 c4 p0 p1 p2 p3 p4
            generalize grow (redrawn w3 pq.d) pq.os = wq at *
            clear hB hs hwr hwr2 hgt hpI hp0 hpn
            go_wp2_with fail
            go_loopw [5] (fun kv wx => ∃ k : Nat, kv = .int .i64 k ∧ k ≤ p + 1 ∧ Hid (∀ j, j < k → pairR d (p + 1) j = true) ∧ Below w.heap.size w wx) (fun kv _ => p + 1 - (intOf kv).toNat)
            case atStart => exact ⟨0, rfl, by omega, (fun j hj => by omega), hbq⟩
            case round =>
              obtain ⟨k, rfl, hk, HK, hB⟩ := hrel
              by_cases hkp : k < p + 1
              · obtain ⟨ae, he, _, c0, c1, c2, c3, c4⟩ := (HL.out.below hB).lst.atRg HD.out hin
                injection he with he
                subst he
                rw [HX.out] at c0 c1 c2 c3 c4
                have hkn : k < n := by omega
                obtain ⟨af, hf, _, p0, p1, p2, p3, p4⟩ := (HL.out.below hB).lst.atRg HD.out hkn
                injection hf with hf
                subst hf
                obtain ⟨z, hz⟩ : ∃ z, gRg d k = z := ⟨_, rfl⟩
                rw [hz] at p0 p1 p2 p3 p4
                have HZ := Lib.hid hz
                clear hz
                obtain ⟨ov, hov⟩ : ∃ ov, overR z x = ov := ⟨_, rfl⟩
                have HOV := Lib.hid hov
                clear hov
                go_wp2_with fail
                have q_c0 := fun d os => cell_regrown c0 d os
                have q_c1 := fun d os => cell_regrown c1 d os
                have q_c2 := fun d os => cell_regrown c2 d os
                have q_c3 := fun d os => cell_regrown c3 d os
                have q_c4 := fun d os => cell_regrown c4 d os
                have q_p0 := fun d os => cell_regrown p0 d os
                have q_p1 := fun d os => cell_regrown p1 d os
                have q_p2 := fun d os => cell_regrown p2 d os
                have q_p3 := fun d os => cell_regrown p3 d os
                have q_p4 := fun d os => cell_regrown p4 d os
                try simp only [List.append]
                first | refine wp_region_text_below ?_ | refine wp_region_quiet_below (by kernel_rfl) (by kernel_rfl) ?_
                repeat (go_big_quiet_step (((go_at_call 104; with_reducible exact Calls.regrown_of (roverlap_any z x _ HOV.out _)))))
                refine wpQuiet_nil ?_
                intro _ hqw
                obtain ⟨pq, hqw⟩ := hqw
                subst hqw
                clear q_c0 q_c1 q_c2 q_c3 q_c4 q_p0 q_p1 q_p2 q_p3 q_p4
                have hbq2 := hB.trans ((below_regrown wr pq.d pq.os).mono hB.size)
                clear c0 c1 c2 c3 c4 p0 p1 p2 p3 p4 hB
                generalize grow (redrawn wr pq.d) pq.os = wy at *
                have hB := hbq2
                clear hbq2
                cases ov
                · have HK2 : Hid (∀ j, j < k + 1 → pairR d (p + 1) j = true) := fun j hj => by
                    by_cases e : j = k
                    · subst e
                      unfold pairR
                      rw [HX.out, HZ.out, HOV.out]; rfl
                    · exact HK.out j (by omega)
                  go_wp2_with fail
                  go_roundw
                  case rel => exact ⟨k + 1, by go_num, by omega, HK2, hB⟩
                  case measure => simp [intOf]; omega
                · have hf : b = false := by rw [← HB.out]; exact right_false_rst (i := p + 1) (by rw [HD.out]; exact hin) (rst_pair hkp (by unfold pairR; rw [HX.out, HZ.out, HOV.out]; rfl))
                  have HF := Lib.hid hf
                  clear hf
                  go_wp2_with fail
                  go_ret
                  exact ⟨by rw [HF.out]; rfl, hB⟩
              · obtain rfl : k = p + 1 := by omega
                have HRS : Hid (∀ j, j < p + 1 + 1 → rstR d j = true) := fun j hj => by
                  by_cases e : j = p + 1
                  · subst e; exact HP1.out 0 HK.out
                  · exact HQ.out j (by omega)
                go_wp2_with fail
                go_roundw
                case rel => exact ⟨p + 1 + 1, by go_num, by omega, HRS, hB⟩
                case measure => simp [intOf]; omega
    · obtain rfl : i = n := by omega
      by_cases h4 : i ≤ 4096
      · have hb1 : b = true := by rw [← HB.out]; exact right_of_rst (by rw [HD.out]; exact h4) (fun j hj => HQ.out j (by rw [HD.out] at hj; exact hj))
        have HB1 := Lib.hid hb1
        clear hb1
        have h4i : decide ((i : Int) ≤ 4096) = true := decide_eq_true (by omega)
        go_wp2_with fail
        go_ret
        exact ⟨by rw [HB1.out]; rfl, hB⟩
      · have hb1 : b = false := by
          rw [← HB.out, Bool.eq_false_iff]
          intro e
          have := (rightB_true.1 e).1
          rw [HD.out] at this
          omega
        have HB1 := Lib.hid hb1
        clear hb1
        have h4i : decide ((i : Int) ≤ 4096) = false := decide_eq_false (by omega)
        go_wp2_with fail
        go_ret
        exact ⟨by rw [HB1.out]; rfl, hB⟩
end Go.Proofs.YtodcoockhkghdaaGreat.Kr
