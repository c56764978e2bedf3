/- Several texts of mine in one: RangesOw, ContactsMath, ContactsAct, PlanR, RangesRt, Ref06b. No condition. -/
import Derived.Test.YtodcoockhkghdaaGreatGQ36
import Derived.Test.YtodcoockhkghdaaGreatGQ3
namespace Go.Proofs.YtodcoockhkghdaaGreat.Kr
open Go.ChangeShapes Go.WideShapes Go.ChangeAt Go.RowKit Go.Sort
set_option linter.unusedSimpArgs false
set_option linter.unusedVariables false
def befR (a b:Rg):Prop:=ltR a b ∧ (a.fr = b.fr → a.tn = b.tn → a.en ≤ b.st)
def covR (cf ct cs ce:Int) (x:Rg):Bool:=decide (x.fr = cf ∧ x.tn = ct ∧ x.st ≤ cs ∧ ce ≤ x.en)
structure SortR (d:List Rg):Prop where
 ord:d.Pairwise befR
 span:∀ x ∈ d,x.st < x.en ∧ 0 ≤ x.ow
theorem SortR.filter {d:List Rg} (h:SortR d) (p:Rg → Bool):SortR (d.filter p):=
 ⟨h.ord.filter p,fun x hx => h.span x (List.mem_filter.1 hx).1⟩
theorem rightB_okR {d:List Rg} (h:rightB d = true) {i:Nat} (hi:i < d.length):okR (gRg d i) = true:=by
 have:=(rightB_true.1 h).2 i hi
 unfold stepB at this
 simp at this
 exact this.1
theorem rightB_next {d:List Rg} (h:rightB d = true) {i:Nat} (hi:i + 1 < d.length):befR (gRg d i) (gRg d (i + 1)):=by
 have h0:=(rightB_true.1 h).2 (i + 1) hi
 have h1:=okR_span (rightB_okR h hi)
 have h2:=okR_span (rightB_okR h (i:=i) (by omega))
 unfold stepB at h0
 simp [overR] at h0
 obtain ⟨_,h3,h4⟩:=h0
 rcases cmpR_spec (gRg d i) (gRg d (i + 1)) with ⟨hl,e⟩ | ⟨_,_,_,e⟩ | ⟨_,e⟩
 ·refine ⟨hl,fun e1 e2 => ?_⟩
  unfold ltR at hl
  omega
 ·omega
 ·omega
theorem befR_trans {a b c:Rg} (h1:befR a b) (h2:befR b c) (hb:b.st < b.en):befR a c:=by
 obtain ⟨l1,r1⟩:=h1
 obtain ⟨l2,r2⟩:=h2
 unfold ltR at l1 l2
 refine ⟨by unfold ltR; omega,fun e1 e2 => ?_⟩
 have:=r1 (by omega) (by omega)
 have:=r2 (by omega) (by omega)
 omega
theorem rightB_far {d:List Rg} (h:rightB d = true) {i:Nat}:∀ k,i + 1 + k < d.length → befR (gRg d i) (gRg d (i + 1 + k))
 | 0,hk => rightB_next h hk
 | k + 1,hk => befR_trans (rightB_far h k (by omega)) (rightB_next h (i:=i + 1 + k) (by omega)) (okR_span (rightB_okR h (by omega))).1
theorem gRg_elem {d:List Rg} {j:Nat} (h:j < d.length):gRg d j = d[j]:=by
 unfold gRg
 rw [List.getD_eq_getElem?_getD,List.getElem?_eq_getElem h]
 rfl
theorem sort_of_right {d:List Rg} (h:rightB d = true):SortR d:=by
 refine ⟨?_,fun x hx => ?_⟩
 ·rw [List.pairwise_iff_getElem]
  intro i j hi hj hij
  have:=rightB_far h (i:=i) (j - i - 1) (by omega)
  rw [show i + 1 + (j - i - 1) = j from by omega] at this
  rw [gRg_elem hi,gRg_elem hj] at this
  exact this
 ·obtain ⟨j,hj,rfl⟩:=mem_gRg hx
  exact ⟨(okR_span (rightB_okR h hj)).1,(okR_span (rightB_okR h hj)).2.1⟩
theorem SortR.at_ {d:List Rg} (h:SortR d) {i j:Nat} (hij:i < j) (hj:j < d.length):befR (gRg d i) (gRg d j):=by
 rw [gRg_elem hj,gRg_elem (by omega)]
 exact List.pairwise_iff_getElem.1 h.ord i j (by omega) hj hij
theorem SortR.sp {d:List Rg} (h:SortR d) {j:Nat} (hj:j < d.length):(gRg d j).st < (gRg d j).en ∧ 0 ≤ (gRg d j).ow:=h.span _ (gRg_mem hj)
theorem waysI_spec (a:Rg) (cf ct:Int):((a.fr < cf ∨ a.fr = cf ∧ a.tn < ct) ∧ waysI a ⟨cf,ct,0,0,0⟩ = -1) ∨ (a.fr = cf ∧ a.tn = ct ∧ waysI a ⟨cf,ct,0,0,0⟩ = 0) ∨ ((cf < a.fr ∨ a.fr = cf ∧ ct < a.tn) ∧ waysI a ⟨cf,ct,0,0,0⟩ = 1):=by
 unfold waysI
 rcases cmpI_spec a.fr cf with ⟨h1,e1⟩ | ⟨h1,e1⟩ | ⟨h1,e1⟩ <;> rcases cmpI_spec a.tn ct with ⟨h2,e2⟩ | ⟨h2,e2⟩ | ⟨h2,e2⟩ <;>
  simp only [e1,e2,orF] <;> simp <;> omega
theorem passP_iff {d:List Rg} {cf ct ce:Int} {i:Nat}:passP d cf ct ce i = true ↔ (cf < (gRg d i).fr ∨ (gRg d i).fr = cf ∧ ct < (gRg d i).tn) ∨ ((gRg d i).fr = cf ∧ (gRg d i).tn = ct ∧ ce ≤ (gRg d i).en):=by
 unfold passP
 rcases waysI_spec (gRg d i) cf ct with ⟨h1,e1⟩ | ⟨h1,h2,e1⟩ | ⟨h1,e1⟩ <;> rw [e1] <;> simp <;> omega
theorem passP_up {d:List Rg} (h:SortR d) {cf ct ce:Int} {i j:Nat} (hij:i ≤ j) (hj:j < d.length) (hp:passP d cf ct ce i = true):passP d cf ct ce j = true:=by
 rcases Nat.lt_or_eq_of_le hij with hij | rfl
 ·rw [passP_iff] at hp ⊢
  obtain ⟨h1,h2⟩:=h.at_ hij hj
  have h3:=h.sp hj
  unfold ltR at h1
  by_cases e1:(gRg d i).fr = (gRg d j).fr
  ·by_cases e2:(gRg d i).tn = (gRg d j).tn
   ·have:=h2 e1 e2
    omega
   ·omega
  ·omega
 ·exact hp
def Tells (d:List Rg) (cf ct cs ce o:Int) (b:Bool):Prop:=
 (b = true ∧ ∃ x ∈ d,covR cf ct cs ce x = true ∧ o = x.ow) ∨ (b = false ∧ o = 0 ∧ ∀ x ∈ d,covR cf ct cs ce x = false)
theorem tells_of {d:List Rg} (h:SortR d) {cf ct cs ce:Int} {n i:Nat} {o:Int} {b:Bool} (hd:d.length = n) (hc:cs < ce) (ha:AskAt d cf ct ce n i) (ho:owR d cf ct cs n i = (o,b)):Tells d cf ct cs ce o b:=by
 obtain ⟨hi,h1,h2⟩:=ha
 unfold owR at ho
 by_cases hg:i = n ∨ waysI (gRg d i) ⟨cf,ct,0,0,0⟩ ≠ 0 ∨ cs < (gRg d i).st
 ·rw [if_pos hg] at ho
  injection ho with e1 e2
  refine .inr ⟨e2.symm,e1.symm,fun x hx => ?_⟩
  obtain ⟨j,hj,rfl⟩:=mem_gRg hx
  cases hcv:covR cf ct cs ce (gRg d j)
  ·rfl
  ·exfalso
   unfold covR at hcv
   rw [decide_eq_true_eq] at hcv
   obtain ⟨c1,c2,c3,c4⟩:=hcv
   have hpj:passP d cf ct ce j = true:=passP_iff.2 (.inr ⟨c1,c2,c4⟩)
   have hij:i ≤ j:=by
    rcases h1 with h1 | h1
    ·omega
    ·by_cases hlt:j < i
     ·rw [passP_up h (by omega:j ≤ i - 1) (by omega) hpj] at h1
      cases h1
     ·omega
   have hin:i < n:=by omega
   have hpi:passP d cf ct ce i = true:=by
    rcases h2 with h2 | h2
    ·omega
    ·exact h2
   rw [passP_iff] at hpi
   rcases Nat.lt_or_eq_of_le hij with hij | rfl
   ·obtain ⟨b1,b2⟩:=h.at_ hij hj
    unfold ltR at b1
    by_cases e1:(gRg d i).fr = (gRg d j).fr
    ·by_cases e2:(gRg d i).tn = (gRg d j).tn
     ·have:=b2 e1 e2
      omega
     ·omega
    ·omega
   ·rcases waysI_spec (gRg d i) cf ct with ⟨g1,e1⟩ | ⟨g1,g2,e1⟩ | ⟨g1,e1⟩ <;> rw [e1] at hg <;> omega
 ·rw [if_neg hg] at ho
  injection ho with e1 e2
  have hin:i < n:=by omega
  have hw:waysI (gRg d i) ⟨cf,ct,0,0,0⟩ = 0:=by
   by_cases e:waysI (gRg d i) ⟨cf,ct,0,0,0⟩ = 0
   ·exact e
   ·exact absurd (.inr (.inl e)) hg
  have hpi:passP d cf ct ce i = true:=by
   rcases h2 with h2 | h2
   ·omega
   ·exact h2
  rw [passP_iff] at hpi
  refine .inl ⟨e2.symm,gRg d i,gRg_mem (by omega),?_,e1.symm⟩
  unfold covR
  rw [decide_eq_true_eq]
  rcases waysI_spec (gRg d i) cf ct with ⟨g1,e1⟩ | ⟨g1,g2,e1⟩ | ⟨g1,e1⟩ <;> omega
theorem cov_one {d:List Rg} (h:SortR d) {cf ct cs ce:Int} (hc:cs < ce) {i j:Nat} (hi:i < d.length) (hj:j < d.length) (h1:covR cf ct cs ce (gRg d i) = true) (h2:covR cf ct cs ce (gRg d j) = true):i = j:=by
 unfold covR at h1 h2
 rw [decide_eq_true_eq] at h1 h2
 rcases Nat.lt_trichotomy i j with hl | e | hl
 ·have:=(h.at_ hl hj).2 (by omega) (by omega)
  omega
 ·exact e
 ·have:=(h.at_ hl hi).2 (by omega) (by omega)
  omega
end Go.Proofs.YtodcoockhkghdaaGreat.Kr
namespace Go.Proofs.YtodcoockhkghdaaGreat.Kc
open Go.ChangeShapes Go.WideShapes Go.ChangeAt Go.RowKit Go.Sort
set_option linter.unusedSimpArgs false
set_option linter.unusedVariables false
theorem mem_gCo {d:List Co} {y:Co} (h:y ∈ d):∃ j,j < d.length ∧ gCo d j = y:=by
 obtain ⟨j,hj,e⟩:=List.mem_iff_getElem.1 h
 exact ⟨j,hj,by rw [gCo_eq hj,e]⟩
theorem ltC_trans {a b c:Co} (h1:ltC a b) (h2:ltC b c):ltC a c:=by unfold ltC at *; omega
theorem cmpC_lt {a b:Co}:cmpC a b < 0 ↔ ltC a b:=by
 rcases cmpC_spec a b with ⟨h,e⟩ | ⟨h1,h2,h3,h4,e⟩ | ⟨h,e⟩
 ·rw [e]; exact ⟨fun _ => h,fun _ => by omega⟩
 ·rw [e]; unfold ltC; omega
 ·rw [e]; unfold ltC at *; omega
theorem right_step {d:List Co} (h:rightC d = true) {i:Nat} (hi:i < d.length):okC (gCo d i) = true ∧ idIn (d.take i) (gCo d i).id = false ∧ (i ≠ 0 → ltC (gCo d (i - 1)) (gCo d i) ∧ overC (gCo d (i - 1)) (gCo d i) = false):=by
 have:=(rightC_true.1 h).2 i hi
 unfold stepC at this
 simp only [Bool.and_eq_true,Bool.or_eq_true,Bool.not_eq_true',beq_iff_eq,decide_eq_true_eq] at this
 refine ⟨this.1.1,this.1.2,fun h0 => ?_⟩
 rcases this.2 with h1 | ⟨h1,h2⟩
 ·exact absurd h1 h0
 ·exact ⟨cmpC_lt.1 h1,h2⟩
theorem right_ok {d:List Co} (h:rightC d = true):∀ x ∈ d,okC x = true:=fun x hx => by
 obtain ⟨j,hj,rfl⟩:=mem_gCo hx
 exact (right_step h hj).1
theorem right_lt {d:List Co} (h:rightC d = true):∀ (j i:Nat),i < j → j < d.length → ltC (gCo d i) (gCo d j)
 | 0,i,h1,_ => by omega
 | j + 1,i,h1,h2 => by
  have hs:=((right_step h h2).2.2 (by omega)).1
  rw [Nat.add_sub_cancel] at hs
  by_cases e:i = j
  ·rw [e]; exact hs
  ·exact ltC_trans (right_lt h j i (by omega) (by omega)) hs
theorem right_ids {d:List Co} (h:rightC d = true) {i j:Nat} (hij:i < j) (hj:j < d.length):(gCo d i).id ≠ (gCo d j).id:=by
 have h1:=(right_step h hj).2.1
 unfold idIn at h1
 rw [List.any_eq_false] at h1
 intro e
 exact h1 (gCo d i) (by rw [gCo_eq (by omega:i < d.length)]; exact List.mem_take_iff_getElem.2 ⟨i,by omega,rfl⟩) (by simp [e])
theorem okC_span {x:Co} (h:okC x = true):x.st < x.en:=by
 unfold okC contactB spanB at h
 simp only [Bool.and_eq_true,decide_eq_true_eq] at h
 omega
def befC (a b:Co):Prop:=ltC a b ∧ a.id ≠ b.id ∧ (a.fr = b.fr → a.tn = b.tn → a.en ≤ b.st)
theorem over_bef {a b:Co} (ha:okC a = true) (hb:okC b = true) (hl:ltC a b) (ho:overC a b = false):a.fr = b.fr → a.tn = b.tn → a.en ≤ b.st:=by
 have h1:=okC_span ha
 have h2:=okC_span hb
 unfold overC at ho
 rw [decide_eq_false_iff_not] at ho
 unfold ltC at hl
 intro e1 e2
 by_cases hx:a.en ≤ b.st
 ·exact hx
 ·exact absurd ⟨e1,e2,by omega,by omega⟩ ho
theorem right_bef {d:List Co} (h:rightC d = true):∀ (j i:Nat),i < j → j < d.length → befC (gCo d i) (gCo d j)
 | 0,i,h1,_ => by omega
 | j + 1,i,h1,h2 => by
  have hs:=(right_step h h2).2.2 (by omega)
  rw [Nat.add_sub_cancel] at hs
  have hok1:=(right_step h h2).1
  have hok2:=(right_step h (by omega:j < d.length)).1
  have hn:=over_bef hok2 hok1 hs.1 hs.2
  have hid:=right_ids h h1 h2
  refine ⟨right_lt h _ _ h1 h2,hid,?_⟩
  by_cases e:i = j
  ·rw [e]; exact hn
  ·have hp:=right_bef h j i (by omega) (by omega)
   intro e1 e2
   have hl1:=hp.1
   have hl2:=hs.1
   have s1:=okC_span hok2
   have f1:(gCo d i).fr = (gCo d j).fr:=by unfold ltC at hl1 hl2; omega
   have f2:(gCo d i).tn = (gCo d j).tn:=by unfold ltC at hl1 hl2; omega
   have g1:=hp.2.2 f1 f2
   have g2:=hn (by omega) (by omega)
   omega
def foundC (d:List Co) (id:Int):Co:=(d.find? (fun x => x.id == id)).getD ⟨0,0,0,0,0,0⟩
theorem found_mem {d:List Co} {id:Int} (h:idIn d id = true):foundC d id ∈ d ∧ (foundC d id).id = id:=by
 unfold foundC
 cases e:d.find? (fun x => x.id == id) with
 | none =>
  rw [List.find?_eq_none] at e
  unfold idIn at h
  obtain ⟨x,hx,hx2⟩:=List.any_eq_true.1 h
  exact absurd hx2 (e x hx)
 | some y =>
  exact ⟨List.mem_of_find?_eq_some e,by simpa using List.find?_some e⟩
theorem idIn_mem {d:List Co} {x:Co} (h:x ∈ d):idIn d x.id = true:=List.any_eq_true.2 ⟨x,h,by simp⟩
theorem found_of {d:List Co} {x:Co} (h:rightC d = true) (hx:x ∈ d):foundC d x.id = x:=by
 obtain ⟨h1,h2⟩:=found_mem (idIn_mem hx)
 obtain ⟨i,hi,e1⟩:=mem_gCo h1
 obtain ⟨j,hj,e2⟩:=mem_gCo hx
 rw [← e1,← e2] at h2
 by_cases e:i = j
 ·rw [← e1,← e2,e]
 ·rcases Nat.lt_or_gt_of_ne e with hlt | hlt
  ·exact absurd h2 (right_ids h hlt hj)
  ·exact absurd h2.symm (right_ids h hlt hi)
end Go.Proofs.YtodcoockhkghdaaGreat.Kc
namespace Go.Proofs.YtodcoockhkghdaaGreat
open Go.ChangeShapes Go.WideShapes Go.ChangeAt Go.RowKit Go.Sort
set_option linter.unusedSimpArgs false
set_option linter.unusedVariables false
def aheadC (cs:List Co) (clk:Int):Bool:=!cs.any fun x => decide (x.en ≤ clk)
def aheadR (rs:List Rg) (clk:Int):Bool:=!rs.any fun x => decide (x.en ≤ clk)
def rightP (cs:List Co) (rs:List Rg) (clk ver:Int):Bool:=
 Kc.rightC cs && (Kr.rightB rs && (inB clk 0 2147483647 && (inB ver 0 1099511627776 && (aheadC cs clk && aheadR rs clk))))
structure RightP (cs:List Co) (rs:List Rg) (clk ver:Int):Prop where
 co:Kc.rightC cs = true
 rg:Kr.rightB rs = true
 c0:0 ≤ clk
 c1:clk ≤ 2147483647
 v0:0 ≤ ver
 v1:ver ≤ 1099511627776
 ec:∀ x ∈ cs,clk < x.en
 er:∀ x ∈ rs,clk < x.en
theorem rightP_spec {cs:List Co} {rs:List Rg} {clk ver:Int}:rightP cs rs clk ver = true ↔ RightP cs rs clk ver:=by
 unfold rightP aheadC aheadR inB
 constructor
 ·intro h
  simp only [Bool.and_eq_true,decide_eq_true_eq,Bool.not_eq_true',List.any_eq_false,Int.not_le] at h
  obtain ⟨h1,h2,h3,h4,h5,h6⟩:=h
  exact ⟨h1,h2,h3.1,h3.2,h4.1,h4.2,h5,h6⟩
 ·intro h
  simp only [Bool.and_eq_true,decide_eq_true_eq,Bool.not_eq_true',List.any_eq_false,Int.not_le]
  exact ⟨h.co,h.rg,⟨h.c0,h.c1⟩,⟨h.v0,h.v1⟩,h.ec,h.er⟩
end Go.Proofs.YtodcoockhkghdaaGreat
namespace Go.Proofs.YtodcoockhkghdaaGreat.Kr
open Go.ChangeShapes Go.WideShapes Go.ChangeAt Go.RowKit Go.Sort
set_option linter.unusedSimpArgs false
set_option linter.unusedVariables false
theorem right_ok {d:List Rg} (h:rightB d = true):∀ x ∈ d,okR x = true:=fun x hx => by
 obtain ⟨j,hj,rfl⟩:=mem_gRg hx
 exact rightB_okR h hj
end Go.Proofs.YtodcoockhkghdaaGreat.Kr
namespace Go.Proofs.YtodcoockhkghdaaGreat.Kc
open Go.ChangeShapes Go.WideShapes Go.ChangeAt Go.RowKit Go.Sort
set_option linter.unusedSimpArgs false
set_option linter.unusedVariables false
set_option maxHeartbeats 1000000 in
set_option maxRecDepth 100000 in
theorem rless_any (a b:Co) (v:Bool) (hv:decide (cmpC a b < 0) = v) (w:World):Calls Tryz.prog 100 #[.agg #[.int .i64 a.id,.int .i64 a.fr,.int .i64 a.tn,.int .i64 a.st,.int .i64 a.en,.int .i64 a.rt],.agg #[.int .i64 b.id,.int .i64 b.fr,.int .i64 b.tn,.int .i64 b.st,.int .i64 b.en,.int .i64 b.rt]] w fun e w' => e = .returned (.bool v) ∧ Below w.heap.size w w':=by
 have hB:Below w.heap.size w ((w.alloc (.cells #[.int .i64 a.id,.int .i64 a.fr,.int .i64 a.tn,.int .i64 a.st,.int .i64 a.en,.int .i64 a.rt] 59)).alloc (.cells #[.int .i64 b.id,.int .i64 b.fr,.int .i64 b.tn,.int .i64 b.st,.int .i64 b.en,.int .i64 b.rt] 59)):=by (repeat (first | exact Below.refl _ _ | refine Below.alloc ?_ (by first | omega | (simp; done) | (simp; omega)) _ | refine Below.setCell ?_ (by first | omega | (simp; done) | (simp; omega)) _ | refine Below.drew ?_))
 have hlt:v = true ↔ ltC a b:=by rw [← hv,decide_eq_true_eq]; exact cmpC_lt
 have HV:=Lib.hid hlt
 clear hv hlt
 by_cases h1:a.fr = b.fr
 ·have d1:(a.fr != b.fr) = false:=by simp [h1]
  by_cases h2:a.tn = b.tn
  ·have d2:(a.tn != b.tn) = false:=by simp [h2]
   by_cases h3:a.st = b.st
   ·have d3:(a.st != b.st) = false:=by simp [h3]
    have hr:v = decide (a.id < b.id):=by rw [Bool.eq_iff_iff,HV.out,decide_eq_true_eq]; unfold ltC; omega
    have HR:=Lib.hid hr
    clear hr h1 h2 h3
    go_enter Tryz.func100,Tryz.ntmps100
    go_wp2
    go_ret
    exact ⟨by rw [HR.out]; rfl,hB⟩
   ·have d3:(a.st != b.st) = true:=by simp [h3]
    have hr:v = decide (a.st < b.st):=by rw [Bool.eq_iff_iff,HV.out,decide_eq_true_eq]; unfold ltC; omega
    have HR:=Lib.hid hr
    clear hr h1 h2 h3
    go_enter Tryz.func100,Tryz.ntmps100
    go_wp2
    go_ret
    exact ⟨by rw [HR.out]; rfl,hB⟩
  ·have d2:(a.tn != b.tn) = true:=by simp [h2]
   have hr:v = decide (a.tn < b.tn):=by rw [Bool.eq_iff_iff,HV.out,decide_eq_true_eq]; unfold ltC; omega
   have HR:=Lib.hid hr
   clear hr h1 h2
   go_enter Tryz.func100,Tryz.ntmps100
   go_wp2
   go_ret
   exact ⟨by rw [HR.out]; rfl,hB⟩
 ·have d1:(a.fr != b.fr) = true:=by simp [h1]
  have hr:v = decide (a.fr < b.fr):=by rw [Bool.eq_iff_iff,HV.out,decide_eq_true_eq]; unfold ltC; omega
  have HR:=Lib.hid hr
  clear hr h1
  go_enter Tryz.func100,Tryz.ntmps100
  go_wp2
  go_ret
  exact ⟨by rw [HR.out]; rfl,hB⟩
set_option maxHeartbeats 1000000 in
set_option maxRecDepth 100000 in
theorem roverlap_any (a b:Co) (v:Bool) (hv:overC a b = v) (w:World):Calls Tryz.prog 101 #[.agg #[.int .i64 a.id,.int .i64 a.fr,.int .i64 a.tn,.int .i64 a.st,.int .i64 a.en,.int .i64 a.rt],.agg #[.int .i64 b.id,.int .i64 b.fr,.int .i64 b.tn,.int .i64 b.st,.int .i64 b.en,.int .i64 b.rt]] w fun e w' => e = .returned (.bool v) ∧ Below w.heap.size w w':=by
 have hB:Below w.heap.size w ((w.alloc (.cells #[.int .i64 a.id,.int .i64 a.fr,.int .i64 a.tn,.int .i64 a.st,.int .i64 a.en,.int .i64 a.rt] 59)).alloc (.cells #[.int .i64 b.id,.int .i64 b.fr,.int .i64 b.tn,.int .i64 b.st,.int .i64 b.en,.int .i64 b.rt] 59)):=by (repeat (first | exact Below.refl _ _ | refine Below.alloc ?_ (by first | omega | (simp; done) | (simp; omega)) _ | refine Below.setCell ?_ (by first | omega | (simp; done) | (simp; omega)) _ | refine Below.drew ?_))
 have HV:=Lib.hid hv
 clear hv
 by_cases h1:a.fr = b.fr <;> by_cases h2:a.tn = b.tn <;> by_cases h3:a.st < b.en <;> by_cases h4:b.st < a.en
 all_goals
  have hr:v = decide (a.fr = b.fr ∧ a.tn = b.tn ∧ a.st < b.en ∧ b.st < a.en):=HV.out.symm
  simp only [h1,h2,h3,h4,and_true,and_false,and_self,decide_true,decide_false,false_and,true_and] at hr
  have d1:(a.fr == b.fr) = decide (a.fr = b.fr):=by rw [Bool.eq_iff_iff]; simp
  have d2:(a.tn == b.tn) = decide (a.tn = b.tn):=by rw [Bool.eq_iff_iff]; simp
  obtain ⟨p3,d3⟩:∃ p,decide (a.st < b.en) = p:=⟨_,rfl⟩
  obtain ⟨p4,d4⟩:∃ p,decide (b.st < a.en) = p:=⟨_,rfl⟩
  have e3:=d3
  have e4:=d4
  simp only [h1,h2,decide_true,decide_false] at d1 d2
  simp only [h3,h4,decide_true,decide_false] at e3 e4
  subst e3 e4
  have HR:=Lib.hid hr
  have H1:=Lib.hid h1
  have H2:=Lib.hid h2
  clear hr h1 h2 h3 h4
  go_enter Tryz.func101,Tryz.ntmps101
  go_wp2
  go_ret
  have h1:=H1.out
  have h2:=H2.out
  exact ⟨by rw [HR.out]; first | rfl | simp [*],by first | exact hB | (rw [h1] at hB; exact hB) | (rw [h2] at hB; exact hB) | (rw [h1,h2] at hB; exact hB)⟩
end Go.Proofs.YtodcoockhkghdaaGreat.Kc
