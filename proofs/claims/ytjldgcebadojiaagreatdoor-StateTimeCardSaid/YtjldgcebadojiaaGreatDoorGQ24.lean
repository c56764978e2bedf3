/- Several texts of mine in one: LedgerMath, Ref09. No condition. -/
import Derived.Test.YtjldgcebadojiaaGreatDoorGQ14
namespace Go.Proofs.YtjldgcebadojiaaGreatDoor.Kb
open Go.ChangeShapes Go.WideShapes Go.ChangeAt Go.RowKit Go.Sort
set_option linter.unusedSimpArgs false
set_option linter.unusedVariables false
def okRow (x:Bk):Bool:=inB x.id 1 1048576 && (!zeroU x && (inM x.ua && (inM x.ub && inM x.uc)))
theorem okRow_ok {x:Bk} (h:okRow x = true):okU x ∧ (1 ≤ x.id ∧ x.id ≤ 1048576) ∧ zeroU x = false:=by
 unfold okRow inM inB at h
 simp only [Bool.and_eq_true,decide_eq_true_eq,Bool.not_eq_true'] at h
 unfold okU
 exact ⟨by omega,by omega,h.2.1⟩
theorem okRow_of {x:Bk} (h:okU x) (h1:1 ≤ x.id) (h2:x.id ≤ 1048576) (h3:zeroU x = false):okRow x = true:=by
 unfold okU at h
 unfold okRow inM inB
 simp only [Bool.and_eq_true,decide_eq_true_eq,Bool.not_eq_true']
 exact ⟨by omega,h3,by omega,by omega,by omega⟩
theorem right_iff {d:List Bk}:rightB d = true ↔ SortB d ∧ ∀ x ∈ d,okRow x = true:=by
 rw [rightB_true]
 constructor
 ·intro h
  have hstep:∀ i,i + 1 < d.length → (gBk d i).id < (gBk d (i + 1)).id:=fun i hi => by
   have:=h (i + 1) hi
   unfold stepR at this
   simp only [Bool.and_eq_true,Bool.or_eq_true,Nat.add_sub_cancel,decide_eq_true_eq,beq_iff_eq] at this
   rcases this.2.1 with e | e
   ·omega
   ·exact e
  have hlt:∀ k i,i + k + 1 < d.length → (gBk d i).id < (gBk d (i + k + 1)).id:=by
   intro k
   induction k with
   | zero => intro i hi; exact hstep i hi
   | succ k ih =>
    intro i hi
    have e1:=ih i (by omega)
    have e2:=hstep (i + k + 1) (by omega)
    rw [show i + (k + 1) + 1 = i + k + 1 + 1 from by omega]
    omega
  refine ⟨List.pairwise_iff_getElem.2 (fun i j hi hj hij => ?_),fun x hx => ?_⟩
  ·have:=hlt (j - i - 1) i (by omega)
   rw [show i + (j - i - 1) + 1 = j from by omega,gBk_eq hi,gBk_eq hj] at this
   exact this
  ·obtain ⟨j,hj,rfl⟩:=mem_gBk hx
   have:=h j hj
   unfold stepR at this
   unfold okRow
   simp only [Bool.and_eq_true] at this ⊢
   exact ⟨this.1,this.2.2⟩
 ·rintro ⟨hs,h⟩ i hi
  have:=h _ (gBk_mem hi)
  unfold okRow at this
  unfold stepR
  simp only [Bool.and_eq_true,Bool.or_eq_true,beq_iff_eq,decide_eq_true_eq] at this ⊢
  refine ⟨this.1,?_,this.2⟩
  by_cases e:i = 0
  ·exact .inl e
  ·exact .inr (hs.at_ (i:=i - 1) (j:=i) (by omega) hi)
theorem right_sort {d:List Bk} (h:rightB d = true):SortB d:=(right_iff.1 h).1
theorem rowB_none {d:List Bk} {j:Int} (h:∀ y ∈ d,y.id ≠ j):rowB d j = ⟨j,0,0,0⟩:=by
 have:hit d j = false:=by unfold hit; rw [List.any_eq_false]; intro y hy; simpa using h y hy
 unfold rowB
 rw [if_neg (by rw [this]; simp)]
theorem rowB_mem {d:List Bk} (hs:SortB d) {x:Bk} (hx:x ∈ d):rowB d x.id = x:=by
 have hh:hit d x.id = true:=by unfold hit; rw [List.any_eq_true]; exact ⟨x,hx,by simp⟩
 unfold rowB
 rw [if_pos hh]
 obtain ⟨h1,h2⟩:=hit_at hs hh
 obtain ⟨j,hj,e⟩:=mem_gBk hx
 by_cases e2:pl d x.id = j
 ·rw [e2,e]
 ·exfalso
  rcases Nat.lt_or_gt_of_ne e2 with h3 | h3
  ·have:=hs.at_ h3 hj; rw [e,h2] at this; omega
  ·have:=hs.at_ h3 h1; rw [e,h2] at this; omega
theorem rowB_cases {d:List Bk} (hs:SortB d) (j:Int):(rowB d j ∈ d ∧ (rowB d j).id = j) ∨ ((∀ y ∈ d,y.id ≠ j) ∧ rowB d j = ⟨j,0,0,0⟩):=by
 by_cases h:∃ y ∈ d,y.id = j
 ·obtain ⟨y,hy,rfl⟩:=h
  rw [rowB_mem hs hy]
  exact .inl ⟨hy,rfl⟩
 ·have h':∀ y ∈ d,y.id ≠ j:=fun y hy e => h ⟨y,hy,e⟩
  exact .inr ⟨h',rowB_none h'⟩
theorem right_ok {d:List Bk} (h:rightB d = true) (j:Int):okU (rowB d j):=by
 obtain ⟨hs,ho⟩:=right_iff.1 h
 rcases rowB_cases hs j with ⟨h1,_⟩ | ⟨_,h2⟩
 ·exact (okRow_ok (ho _ h1)).1
 ·rw [h2]; unfold okU; simp
theorem right_wf {d:List Bk} (h:rightB d = true):∀ x ∈ d,(Lit.int .i64 x.id).wf = true:=fun x hx => by
 have:=(okRow_ok ((right_iff.1 h).2 x hx)).2.1
 exact wfI (by omega)
theorem right_filter {d:List Bk} (h:rightB d = true) (p:Bk → Bool):rightB (d.filter p) = true:=by
 obtain ⟨hs,ho⟩:=right_iff.1 h
 exact right_iff.2 ⟨List.Pairwise.filter _ hs,fun x hx => ho x (List.mem_filter.1 hx).1⟩
theorem more_parts:∀ {d:List Bk} (id:Int),SortB d → d.take (pl d id) = d.filter (fun x => decide (x.id < id)) ∧ d.drop (pl d id + if hit d id = true then 1 else 0) = d.filter (fun x => decide (id < x.id))
 | [],id,_ => by simp [pl,hit]
 | a :: s,id,hd => by
  obtain ⟨d1,d2⟩:=List.pairwise_cons.1 hd
  obtain ⟨i1,i2⟩:=more_parts (d:=s) id d2
  by_cases h1:a.id < id
  ·have e1:pl (a :: s) id = pl s id + 1:=by simp [pl,h1]
   have e2:hit (a :: s) id = hit s id:=by
    have:(a.id == id) = false:=by simp; omega
    simp [hit,this]
   rw [e1,e2,List.take_succ_cons,i1,show pl s id + 1 + (if hit s id = true then 1 else 0) = (pl s id + if hit s id = true then 1 else 0) + 1 from by omega,List.drop_succ_cons,i2]
   refine ⟨?_,?_⟩
   ·rw [List.filter_cons_of_pos (by simpa using h1)]
   ·rw [List.filter_cons_of_neg (by simp; omega)]
  ·have hge:∀ x ∈ s,¬ x.id < id:=fun x hx => by have:=d1 x hx; omega
   have hgt:s.filter (fun x => decide (id < x.id)) = s:=List.filter_eq_self.2 (fun x hx => by have:=d1 x hx; simp; omega)
   have hf0:(a :: s).filter (fun x => decide (x.id < id)) = []:=List.filter_eq_nil_iff.2 (fun x hx => by
    rcases List.mem_cons.1 hx with rfl | hx
    ·simpa using h1
    ·simpa using hge x hx)
   have e1:pl (a :: s) id = 0:=by unfold pl; rw [hf0]; rfl
   rw [e1,hf0]
   refine ⟨rfl,?_⟩
   by_cases h2:a.id = id
   ·have e2:hit (a :: s) id = true:=by simp [hit,h2]
    rw [e2,List.filter_cons_of_neg (by simp; omega),hgt]
    rfl
   ·have e2:hit (a :: s) id = false:=by
     unfold hit
     rw [List.any_eq_false]
     intro x hx
     rcases List.mem_cons.1 hx with rfl | hx
     ·simpa using h2
     ·have:=d1 x hx; simp; omega
    rw [e2,List.filter_cons_of_pos (by simp; omega),hgt]
    rfl
theorem more_mem {d:List Bk} {id:Int} {y:Bk} (hs:SortB d) {x:Bk}:x ∈ moreB d id y ↔ (zeroU y = false ∧ x = y) ∨ (x ∈ d ∧ x.id ≠ id):=by
 obtain ⟨e1,e2⟩:=more_parts id hs
 unfold moreB
 rw [e1,e2]
 cases hz:zeroU y
 ·simp only [List.mem_append,List.mem_filter,decide_eq_true_eq,Bool.false_eq_true,if_false,List.mem_singleton]
  constructor
  ·rintro ((⟨h1,h2⟩ | h1) | ⟨h1,h2⟩)
   ·exact .inr ⟨h1,by omega⟩
   ·exact .inl ⟨trivial,h1⟩
   ·exact .inr ⟨h1,by omega⟩
  ·rintro (⟨_,h⟩ | ⟨h1,h2⟩)
   ·exact .inl (.inr h)
   ·rcases Int.lt_or_gt_of_ne h2 with h | h
    ·exact .inl (.inl ⟨h1,h⟩)
    ·exact .inr ⟨h1,h⟩
 ·simp only [List.mem_append,List.mem_filter,decide_eq_true_eq,if_true,List.append_nil]
  constructor
  ·rintro (⟨h1,h2⟩ | ⟨h1,h2⟩)
   ·exact .inr ⟨h1,by omega⟩
   ·exact .inr ⟨h1,by omega⟩
  ·rintro (⟨h,_⟩ | ⟨h1,h2⟩)
   ·cases h
   ·rcases Int.lt_or_gt_of_ne h2 with h | h
    ·exact .inl ⟨h1,h⟩
    ·exact .inr ⟨h1,h⟩
theorem more_sort {d:List Bk} {id:Int} {y:Bk} (hs:SortB d) (hy:y.id = id):SortB (moreB d id y):=by
 obtain ⟨e1,e2⟩:=more_parts id hs
 unfold moreB
 rw [e1,e2]
 have f1:SortB (d.filter (fun x => decide (x.id < id))):=List.Pairwise.filter _ hs
 have f2:SortB (d.filter (fun x => decide (id < x.id))):=List.Pairwise.filter _ hs
 unfold SortB at *
 cases hz:zeroU y
 ·simp only [Bool.false_eq_true,if_false]
  rw [List.pairwise_append,List.pairwise_append]
  refine ⟨⟨f1,by simp,fun a ha b hb => ?_⟩,f2,fun a ha b hb => ?_⟩
  ·have:=(List.mem_filter.1 ha).2
   obtain rfl:b = y:=by simpa using hb
   simp at this; omega
  ·have h2:=(List.mem_filter.1 hb).2
   simp at h2
   rcases List.mem_append.1 ha with ha | ha
   ·have:=(List.mem_filter.1 ha).2
    simp at this; omega
   ·obtain rfl:a = y:=by simpa using ha
    omega
 ·simp only [if_true,List.append_nil]
  rw [List.pairwise_append]
  refine ⟨f1,f2,fun a ha b hb => ?_⟩
  have h1:=(List.mem_filter.1 ha).2
  have h2:=(List.mem_filter.1 hb).2
  simp at h1 h2; omega
theorem more_right {d:List Bk} {id:Int} {y:Bk} (h:rightB d = true) (hy:y.id = id) (h1:zeroU y = true ∨ okRow y = true):rightB (moreB d id y) = true:=by
 obtain ⟨hs,ho⟩:=right_iff.1 h
 refine right_iff.2 ⟨more_sort hs hy,fun x hx => ?_⟩
 rcases (more_mem hs).1 hx with ⟨h2,rfl⟩ | ⟨h2,_⟩
 ·rcases h1 with h1 | h1
  ·rw [h1] at h2; cases h2
  ·exact h1
 ·exact ho x h2
theorem drop_right {d:List Bk} {l:List Int} (h:rightB d = true):rightB (dropL d l) = true:=right_filter h _
theorem bump_id (x:Bk) (cl sz:Int):(bump x cl sz).id = x.id:=by
 unfold bump
 split
 ·rfl
 ·split <;> rfl
theorem more_len (d:List Bk) (id:Int) (y:Bk):(moreB d id y).length ≤ d.length + 1:=by
 unfold moreB
 have:=pl_le d id
 rw [List.length_append,List.length_append,List.length_take,List.length_drop]
 split <;> simp <;> omega
def bookL (d:List Bk) (c:Ct) (cl sz:Int):List Bk:=if bookB d c cl sz = true then moreB d c.id (bump (rowB d c.id) cl sz) else d
def relL (d:List Bk) (id cl sz:Int):List Bk:=if relB d id cl sz = true then moreB d id (bump (rowB d id) cl (-sz)) else d
theorem bookL_len (d:List Bk) (c:Ct) (cl sz:Int):(bookL d c cl sz).length ≤ d.length + 1:=by
 unfold bookL
 split
 ·exact more_len _ _ _
 ·omega
theorem relL_len (d:List Bk) (id cl sz:Int):(relL d id cl sz).length ≤ d.length + 1:=by
 unfold relL
 split
 ·exact more_len _ _ _
 ·omega
theorem okC_id {c:Ct} (h:okC c = true):1 ≤ c.id ∧ c.id ≤ 1048576:=by
 unfold okC contactB inB at h
 simp only [Bool.and_eq_true,decide_eq_true_eq] at h
 omega
theorem bump_ok {x:Bk} {cl sz:Int} (hx:okU x) (hc:inB cl 0 2 = true) (h0:0 ≤ getU x cl + sz) (h1:getU x cl + sz ≤ 4611686018427387904):okU (bump x cl sz):=by
 unfold okU at hx
 unfold getU at h0 h1
 unfold bump
 rcases class_cases hc with rfl | rfl | rfl
 ·simp at h0 h1 ⊢; unfold okU; simp only; omega
 ·simp at h0 h1 ⊢; unfold okU; simp only; omega
 ·simp at h0 h1 ⊢; unfold okU; simp only; omega
theorem book_facts {d:List Bk} {c:Ct} {cl sz:Int} (hr:rightB d = true) (hb:bookB d c cl sz = true):okC c = true ∧ inB cl 0 2 = true ∧ 0 ≤ sz ∧ sz ≤ roomF c (rowB d c.id) cl ∧ roomF c (rowB d c.id) cl = max 0 (volC c - backF (rowB d c.id) cl):=by
 unfold bookB at hb
 simp only [Bool.and_eq_true] at hb
 obtain ⟨h1,h2,h3⟩:=hb
 have h4:0 ≤ sz ∧ sz ≤ roomF c (rowB d c.id) cl:=by unfold inB at h3; simpa using h3
 exact ⟨h1,h2,h4.1,h4.2,by unfold roomF; rw [if_pos h2]⟩
theorem book_bump {d:List Bk} {c:Ct} {cl sz:Int} (hr:rightB d = true) (hb:bookB d c cl sz = true):okU (bump (rowB d c.id) cl sz):=by
 obtain ⟨h1,h2,h3,h4,h5⟩:=book_facts hr hb
 have hok:=right_ok hr c.id
 have hvc:=volC_ok c
 have hge:=back_ge hok h2
 have hgu:=getU_ok hok cl
 exact bump_ok hok h2 (by omega) (by omega)
theorem book_right {d:List Bk} {c:Ct} {cl sz:Int} (hr:rightB d = true):rightB (bookL d c cl sz) = true:=by
 unfold bookL
 split
 ·rename_i hb
  have hok:=book_bump hr hb
  have hid:(bump (rowB d c.id) cl sz).id = c.id:=by rw [bump_id,rowB_id (right_sort hr)]
  have hci:=okC_id (book_facts hr hb).1
  refine more_right hr hid ?_
  cases hz:zeroU (bump (rowB d c.id) cl sz)
  ·exact .inr (okRow_of hok (by omega) (by omega) hz)
  ·exact .inl rfl
 ·exact hr
theorem book_any (A:Option Addr) (n k:Nat) (d:List Bk) (c:Ct) (cl sz:Int) (w:World) (hd:d.length = n) (hn:n ≤ 1000000 - 1) (h:Sl w w.heap.size 4 A n k (flatBk d)) (hr:rightB d = true) (b:Bool) (hb:bookB d c cl sz = b) (l:List Bk) (hl:bookL d c cl sz = l) :
  Calls Tryz.prog 53 #[.slice A n k,.agg #[.int .i64 c.id,.int .i64 c.fr,.int .i64 c.tn,.int .i64 c.st,.int .i64 c.en,.int .i64 c.rt],.int .i64 cl,.int .i64 sz] w fun e w' => ∃ v,e = .returned (.tuple #[v,.bool b]) ∧ w'.ownsRow w.heap.size 50 4 v l.length (flatBk l) ∧ Below w.heap.size w w':=by
 have hs:=right_sort hr
 have hok:=right_ok hr c.id
 unfold bookL at hl
 cases b with
 | true =>
  rw [if_pos hb] at hl
  exact book_yes A n k d c cl sz w hd hn h hs hok hb l hl
 | false =>
  rw [if_neg (by rw [hb]; simp)] at hl
  subst hl
  rw [hd]
  exact book_no A n k d c cl sz w hd (by omega) h hs hok hb
theorem rel_facts {d:List Bk} {id cl sz:Int} (hb:relB d id cl sz = true):inB cl 0 2 = true ∧ 0 ≤ sz ∧ sz ≤ getU (rowB d id) cl:=by
 unfold relB at hb
 simp only [Bool.and_eq_true] at hb
 obtain ⟨h2,h3⟩:=hb
 have h4:0 ≤ sz ∧ sz ≤ getU (rowB d id) cl:=by unfold inB at h3; simpa using h3
 exact ⟨h2,h4⟩
theorem rel_bump {d:List Bk} {id cl sz:Int} (hr:rightB d = true) (hb:relB d id cl sz = true):okU (bump (rowB d id) cl (-sz)):=by
 obtain ⟨h2,h3,h4⟩:=rel_facts hb
 have hok:=right_ok hr id
 have hgu:=getU_ok hok cl
 exact bump_ok hok h2 (by omega) (by omega)
theorem bump_zero (x:Bk) (cl:Int):bump x cl 0 = x:=by
 unfold bump
 split
 ·simp
 ·split <;> simp
theorem rel_right {d:List Bk} {id cl sz:Int} (hr:rightB d = true):rightB (relL d id cl sz) = true:=by
 unfold relL
 split
 ·rename_i hb
  have hok:=rel_bump hr hb
  have hid:(bump (rowB d id) cl (-sz)).id = id:=by rw [bump_id,rowB_id (right_sort hr)]
  refine more_right hr hid ?_
  cases hz:zeroU (bump (rowB d id) cl (-sz))
  ·right
   have hci:1 ≤ id ∧ id ≤ 1048576:=by
    rcases rowB_cases (right_sort hr) id with ⟨h1,h2⟩ | ⟨_,h2⟩
    ·have:=(okRow_ok ((right_iff.1 hr).2 _ h1)).2.1
     rw [h2] at this
     exact this
    ·exfalso
     obtain ⟨h3,h4,h5⟩:=rel_facts hb
     have h6:getU (rowB d id) cl = 0:=by rw [h2]; unfold getU; simp
     have h7:sz = 0:=by omega
     rw [h7,Int.neg_zero,bump_zero,h2] at hz
     simp [zeroU] at hz
   exact okRow_of hok (by omega) (by omega) hz
  ·exact .inl rfl
 ·exact hr
theorem rel_any (A:Option Addr) (n k:Nat) (d:List Bk) (id cl sz:Int) (w:World) (hd:d.length = n) (hn:n ≤ 1000000 - 1) (h:Sl w w.heap.size 4 A n k (flatBk d)) (hr:rightB d = true) (b:Bool) (hb:relB d id cl sz = b) (l:List Bk) (hl:relL d id cl sz = l) :
  Calls Tryz.prog 59 #[.slice A n k,.int .i64 id,.int .i64 cl,.int .i64 sz] w fun e w' => ∃ v,e = .returned (.tuple #[v,.bool b]) ∧ w'.ownsRow w.heap.size 50 4 v l.length (flatBk l) ∧ Below w.heap.size w w':=by
 have hs:=right_sort hr
 have hok:=right_ok hr id
 unfold relL at hl
 cases b with
 | true =>
  rw [if_pos hb] at hl
  exact rel_yes A n k d id cl sz w hd hn h hs hok hb l hl
 | false =>
  rw [if_neg (by rw [hb]; simp)] at hl
  subst hl
  rw [hd]
  exact rel_no A n k d id cl sz w hd (by omega) h hs hb
set_option maxHeartbeats 1000000 in
set_option maxRecDepth 100000 in
theorem rsame9_any (A A':Option Addr) (n c n' c':Nat) (d d':List Bk) (w:World) (hd:d.length = n) (hd':d'.length = n') (hn:n ≤ 1000000) (h:Sl w w.heap.size 4 A n c (flatBk d)) (h':Sl w w.heap.size 4 A' n' c' (flatBk d')) :
  Calls Tryz.prog 34 #[.slice A n c,.slice A' n' c'] w fun e w' => e = .returned (.bool (decide (d = d'))) ∧ Below w.heap.size w w':=by
 have HD:=Lib.hid hd
 have HD':=Lib.hid hd'
 clear hd hd'
 by_cases hl:n = n'
 ·subst hl
  have HL:=Lib.hid h
  have HL':=Lib.hid h'
  clear h h'
  go_enter Tryz.func34,Tryz.ntmps34
  go_wp2
  go_loopw [5] (fun iv wr => ∃ (i:Nat),iv = .int .i64 i ∧ i ≤ n ∧ Hid (d.take i = d'.take i) ∧ Below w.heap.size w wr) (fun iv _ => n - (intOf iv).toNat)
  case atStart => exact ⟨0,rfl,by omega,by simp [Hid],Below.refl _ _⟩
  case round =>
   obtain ⟨i,rfl,hi,HE,hB⟩:=hrel
   by_cases hin:i < n
   ·obtain ⟨ad,rfl,hab,c0,c1,c2,c3⟩:=(HL.out.below hB).lst.atBk HD.out hin
    obtain ⟨ad',rfl,hab',c0',c1',c2',c3'⟩:=(HL'.out.below hB).lst.atBk HD'.out hin
    have hrun:∀ w0,(binOp .neq 50 (.agg #[.int .i64 (gBk d i).id,.int .i64 (gBk d i).ua,.int .i64 (gBk d i).ub,.int .i64 (gBk d i).uc]) (.agg #[.int .i64 (gBk d' i).id,.int .i64 (gBk d' i).ua,.int .i64 (gBk d' i).ub,.int .i64 (gBk d' i).uc])).run Tryz.prog w0 = .ok (.bool (!decide (gBk d i = gBk d' i))) w0:=fun w0 => neqBk (gBk d i) (gBk d' i) w0
    by_cases he:gBk d i = gBk d' i
    ·have HE2:Hid (d.take (i + 1) = d'.take (i + 1)):=by
      show d.take (i + 1) = d'.take (i + 1)
      rw [take_nextBk (by rw [HD.out]; exact hin),take_nextBk (by rw [HD'.out]; exact hin),HE.out,he]
     rw [decide_eq_true he] at hrun
     simp only [Bool.not_true] at hrun
     clear HE he
     go_wp2_with fail
     have q_c0:=fun d os => cell_regrown c0 d os
     have q_c1:=fun d os => cell_regrown c1 d os
     have q_c2:=fun d os => cell_regrown c2 d os
     have q_c3:=fun d os => cell_regrown c3 d os
     have q_c0':=fun d os => cell_regrown c0' d os
     have q_c1':=fun d os => cell_regrown c1' d os
     have q_c2':=fun d os => cell_regrown c2' d os
     have q_c3':=fun d os => cell_regrown c3' d os
     try simp only [List.append]
     first | refine wp_region_text_below ?_ | refine wp_region_quiet_below (by kernel_rfl) (by kernel_rfl) ?_
     repeat (go_big_quiet_step ((fail)))
     refine wpQuiet_nil ?_
     intro _ hqw
     obtain ⟨pq,hqw⟩:=hqw
     subst hqw
     clear q_c0 q_c1 q_c2 q_c3 q_c0' q_c1' q_c2' q_c3'
     have hbq:=hB.trans ((below_regrown wr pq.d pq.os).mono hB.size)
     clear c0 c1 c2 c3 c0' c1' c2' c3' hrun
     generalize grow (redrawn wr pq.d) pq.os = wq at *
     go_wp2_with fail
     go_roundw
     case rel => exact ⟨i + 1,by go_num,by omega,HE2,hbq⟩
     case measure => simp [intOf]; omega
    ·have hne:d ≠ d':=fun e => he (by rw [e])
     have HNE:=Lib.hid hne
     rw [decide_eq_false he] at hrun
     simp only [Bool.not_false] at hrun
     clear hne he
     go_wp2_with fail
     have q_c0:=fun d os => cell_regrown c0 d os
     have q_c1:=fun d os => cell_regrown c1 d os
     have q_c2:=fun d os => cell_regrown c2 d os
     have q_c3:=fun d os => cell_regrown c3 d os
     have q_c0':=fun d os => cell_regrown c0' d os
     have q_c1':=fun d os => cell_regrown c1' d os
     have q_c2':=fun d os => cell_regrown c2' d os
     have q_c3':=fun d os => cell_regrown c3' d os
     try simp only [List.append]
     first | refine wp_region_text_below ?_ | refine wp_region_quiet_below (by kernel_rfl) (by kernel_rfl) ?_
     repeat (go_big_quiet_step ((fail)))
     refine wpQuiet_nil ?_
     intro _ hqw
     obtain ⟨pq,hqw⟩:=hqw
     subst hqw
     clear q_c0 q_c1 q_c2 q_c3 q_c0' q_c1' q_c2' q_c3'
     have hbq:=hB.trans ((below_regrown wr pq.d pq.os).mono hB.size)
     clear c0 c1 c2 c3 c0' c1' c2' c3' hrun
     generalize grow (redrawn wr pq.d) pq.os = wq at *
     go_wp2_with fail
     go_ret
     exact ⟨by rw [decide_eq_false HNE.out]; rfl,hbq⟩
   ·have hie:i = n:=by omega
    subst hie
    have hdd:d = d':=by
     have:=HE.out
     rw [List.take_of_length_le (by rw [HD.out]; omega),List.take_of_length_le (by rw [HD'.out]; omega)] at this
     exact this
    have HDD:=Lib.hid hdd
    clear hdd
    go_wp2_with fail
    go_ret
    exact ⟨by rw [decide_eq_true HDD.out]; rfl,hB⟩
 ·have hne:d ≠ d':=fun e => hl (by rw [← HD.out,← HD'.out,e])
  have hb:((n:Int) != (n':Int)) = true:=by simp; omega
  have HNE:=Lib.hid hne
  clear hl hne
  go_enter Tryz.func34,Tryz.ntmps34
  go_wp2
  go_ret
  exact ⟨by rw [decide_eq_false HNE.out]; rfl,Below.refl _ _⟩
end Go.Proofs.YtjldgcebadojiaaGreatDoor.Kb
