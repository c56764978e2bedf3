/- Several texts of mine in one: Mem2, QTail, NewVar. No condition. -/
import Derived.Test.YtjldgcebadojiaaGreatDoorGQ0
import Derived.StillTail
import Derived.Lib.QuietBelow
import Derived.Deep.MidRow
namespace Go.Proofs.YtjldgcebadojiaaGreatDoor
open Go.ChangeShapes Go.WideShapes Go.ChangeAt Go.RowKit Go.Sort
set_option linter.unusedSimpArgs false
set_option linter.unusedVariables false
theorem Blok.new (w:World) (t:TypeId) (cs:Array Value):Blok (w.alloc (.cells cs t)) w.heap.size t cs:=heap_alloc_new w _
theorem Blok.set_ {w:World} {g:Nat} {t:TypeId} {cs:Array Value} (h:Blok w g t cs) (i:Nat) (u:Value):Blok (w.setCell ⟨g,i,none⟩ u) g t (cs.setIfInBounds i u):=by
 unfold Blok at h ⊢
 simp [World.setCell,Array.getElem?_modify,h]
theorem Blok.far {w:World} {g:Nat} {t:TypeId} {cs:Array Value} (h:Blok w g t cs) {p:Addr} (hp:g ≠ p.block) (u:Value):Blok (w.setCell p u) g t cs:=(Below.heap_setCell w p u g hp).trans h
theorem Blok.alloc {w:World} {g:Nat} {t:TypeId} {cs:Array Value} (h:Blok w g t cs) (o:Obj):Blok (w.alloc o) g t cs:=(Below.heap_alloc w o g h.lt).trans h
theorem Blok.kept {S:Nat → Prop} {w w':World} {g:Nat} {t:TypeId} {cs:Array Value} (h:Blok w g t cs) (k:Kept S w w') (hn:¬ S g):Blok w' g t cs:=k.blok h hn
theorem blok4 {w:World} {g:Nat} {t:TypeId} {a0 a1 a2 a3:Value} (h:Blok w g t #[a0,a1,a2,a3]):w.cell? ⟨g,0,none⟩ = some a0 ∧ w.cell? ⟨g,1,none⟩ = some a1 ∧ w.cell? ⟨g,2,none⟩ = some a2 ∧ w.cell? ⟨g,3,none⟩ = some a3 ∧ g < w.heap.size:=⟨h.cell 0,h.cell 1,h.cell 2,h.cell 3,h.lt⟩
theorem free4 {w:World} {g:Nat} {t:TypeId} {cs:Array Value} (h:Blok w g t cs):w.frozen? ⟨g,0,none⟩ = false ∧ w.frozen? ⟨g,1,none⟩ = false ∧ w.frozen? ⟨g,2,none⟩ = false ∧ w.frozen? ⟨g,3,none⟩ = false:=⟨h.free 0,h.free 1,h.free 2,h.free 3⟩
theorem blok13 {w:World} {g:Nat} {t:TypeId} {a0 a1 a2 a3 a4 a5 a6 a7 a8 a9 a10 a11 a12:Value} (h:Blok w g t #[a0,a1,a2,a3,a4,a5,a6,a7,a8,a9,a10,a11,a12]):w.cell? ⟨g,0,none⟩ = some a0 ∧ w.cell? ⟨g,1,none⟩ = some a1 ∧ w.cell? ⟨g,2,none⟩ = some a2 ∧ w.cell? ⟨g,3,none⟩ = some a3 ∧ w.cell? ⟨g,4,none⟩ = some a4 ∧ w.cell? ⟨g,5,none⟩ = some a5 ∧ w.cell? ⟨g,6,none⟩ = some a6 ∧ w.cell? ⟨g,7,none⟩ = some a7 ∧ w.cell? ⟨g,8,none⟩ = some a8 ∧ w.cell? ⟨g,9,none⟩ = some a9 ∧ w.cell? ⟨g,10,none⟩ = some a10 ∧ w.cell? ⟨g,11,none⟩ = some a11 ∧ w.cell? ⟨g,12,none⟩ = some a12 ∧ g < w.heap.size:=⟨h.cell 0,h.cell 1,h.cell 2,h.cell 3,h.cell 4,h.cell 5,h.cell 6,h.cell 7,h.cell 8,h.cell 9,h.cell 10,h.cell 11,h.cell 12,h.lt⟩
theorem ret4 {w W:World} {b:Nat} {T:TypeId} {z0 z1 z2 z3:Value} (h:Blok W b T #[z0,z1,z2,z3]) (hB:Below w.heap.size w W) (hle:w.heap.size ≤ b) (v0 v1 v2 v3:Value):Blok ((((W.setCell ⟨b,0,none⟩ v0).setCell ⟨b,1,none⟩ v1).setCell ⟨b,2,none⟩ v2).setCell ⟨b,3,none⟩ v3) b T #[v0,v1,v2,v3] ∧ Below w.heap.size w ((((W.setCell ⟨b,0,none⟩ v0).setCell ⟨b,1,none⟩ v1).setCell ⟨b,2,none⟩ v2).setCell ⟨b,3,none⟩ v3) ∧ W.grownBy ((((W.setCell ⟨b,0,none⟩ v0).setCell ⟨b,1,none⟩ v1).setCell ⟨b,2,none⟩ v2).setCell ⟨b,3,none⟩ v3) (some b):=by
 refine ⟨?_,(((hB.setCell (p:=⟨b,0,none⟩) hle v0).setCell (p:=⟨b,1,none⟩) hle v1).setCell (p:=⟨b,2,none⟩) hle v2).setCell (p:=⟨b,3,none⟩) hle v3,grown_trans (grown_trans (grown_trans (grown_set _ _ _) (grown_set _ _ _)) (grown_set _ _ _)) (grown_set _ _ _)⟩
 have h2:=(((h.set_ 0 v0).set_ 1 v1).set_ 2 v2).set_ 3 v3
 simpa using h2
end Go.Proofs.YtjldgcebadojiaaGreatDoor
namespace Go.Proofs.YtjldgcebadojiaaGreatDoor
open Go.Sort Go.RowKit
set_option linter.unusedSimpArgs false
set_option linter.unusedVariables false
section
variable {P:Program} {ops:Array Oper} {md:Region.Mode} {C:World → Prop}

def wpAnyLQ (P:Program) (md:Region.Mode) (ops:Array Oper) (C:World → Prop) (n:Nat) (L:Array Bool → Act → Prop):Nat → Array Bool → Act → Prop
 | 0,listed,a => L listed a
 | f + 1,listed,a =>
  Region.ready md ops listed ≠ [] ∧ ∀ i ∈ Region.ready md ops listed,i < n ∧ qOp P ops C i (wpAnyLQ P md ops C n L f (listed.setIfInBounds i true)) a

theorem wpAny_of_headQ {n g:Nat} {L:Array Bool → Act → Prop} {Q':Exit → Act → World → Prop} (hL:∀ listed a w,C w → L listed a → wpAny P md ops Q' g listed a w) :
  ∀ (f:Nat) (listed:Array Bool) (a:Act) (w:World),C w → wpAnyLQ P md ops C n L f listed a → wpAny P md ops Q' (f + g) listed a w
 | 0,listed,a,w,hw,h => by rw [Nat.zero_add]; exact hL _ _ _ hw h
 | f + 1,listed,a,w,hw,h => by
  rw [show f + 1 + g = (f + g) + 1 by omega]
  exact ⟨fun h0 => absurd h0 h.1,fun i hi => wpOp_of_qOp hw (fun a' w' hw' h' => wpAny_of_headQ hL f _ a' w' hw' h') (h.2 i hi).2⟩

theorem wpAnyLQ_first {n i:Nat} {oi:Oper} {v:Value} {L:Array Bool → Act → Prop} (hi:ops[i]? = some oi) (hsel:∀ (j:Nat) (o:Oper) cs b,ops[j]? = some o → o.op ≠ .select cs b)
  (hs:Region.sinkB md ops n = true) (hc:Region.chainB md ops n = true) (hn:n < ops.size) (hin:i < n)
  (hdone:∀ listed a,L listed a → ∀ j ∈ Region.ready md ops listed,n ≤ j) :
  ∀ (f:Nat) (listed:Array Bool) (a:Act),HeadInv md ops n listed →
   (∀ j oj,ops[j]? = some oj → j ≠ i → listed.getD j true = false → (∀ e ∈ oj.after,Region.binds md e = true → e.on ≠ i) → oi.apart ops oj = true) →
   i ∈ Region.ready md ops listed → YieldsIn P ops C oi v a →
   wpAnyLQ P md ops C n L f (listed.setIfInBounds i true) (a.put oi.dst v) → wpAnyLQ P md ops C n L (f + 1) listed a:=by
 intro f
 induction f with
 | zero =>
  intro listed a inv _ hr hy H
  have hun:=(mem_ready.1 hr).1
  refine ⟨fun h => (by rw [h] at hr; cases hr),fun j hj => ?_⟩
  have hjn:j < n:=by
   rcases Nat.lt_or_ge j n with h | h
   ·exact h
   ·exact absurd hj (tail_waits hs hc hn inv _ i rfl hin hun j h)
  refine ⟨hjn,?_⟩
  by_cases hji:j = i
  ·subst hji; exact hy.qOp hi H
  ·have:=hdone _ _ H j (ready_mono hj hji)
   omega
 | succ f ih =>
  intro listed a inv hfree hr hy H
  have hun:=(mem_ready.1 hr).1
  refine ⟨fun h => (by rw [h] at hr; cases hr),fun j hj => ?_⟩
  have hjn:j < n:=by
   rcases Nat.lt_or_ge j n with h | h
   ·exact h
   ·exact absurd hj (tail_waits hs hc hn inv _ i rfl hin hun j h)
  refine ⟨hjn,?_⟩
  by_cases hji:j = i
  ·subst hji; exact hy.qOp hi H
  ·have h1:=(H.2 j (ready_mono hj hji)).2
   obtain ⟨hjun,oj,hoj,hall⟩:=mem_ready.1 hj
   have hnot:∀ e ∈ oj.after,Region.binds md e = true → e.on ≠ i:=fun e he hb heq => by
    have h1:=hall e he hb
    rw [heq,getD_both hun] at h1
    cases h1
   have h2:=qOp_put hoj (hfree j oj hoj hji hjun hnot) (fun cs b => hsel i oi cs b hi) (fun cs b => hsel j oj cs b hoj) hy h1
   have hfree':∀ k ok,ops[k]? = some ok → k ≠ i → (listed.setIfInBounds j true).getD k true = false →
     (∀ e ∈ ok.after,Region.binds md e = true → e.on ≠ i) → oi.apart ops ok = true:=fun k ok hk hki hun hno => by
    refine hfree k ok hk hki ?_ hno
    by_cases hjk:j = k
    ·subst hjk; exact hjun
    ·rw [getD_set_ne true hjk] at hun; exact hun
   refine qOp_mono (fun a' h3 => ih (listed.setIfInBounds j true) a' (inv.set hj hjn) hfree' (ready_mono hr (Ne.symm hji)) h3.1 ?_) h2
   rw [Array.setIfInBounds_comm _ _ hji]
   exact h3.2

theorem wpAnyLQ_lex {n g:Nat} {Lq:Act → Prop} (hsel:Region.noSelect ops = true) (hs:Region.sinkB md ops n = true) (hc:Region.chainB md ops n = true) (hn:n < ops.size) :
  ∀ (l:List Oper) (k:Nat) (listed:Array Bool) (a:Act),(∀ j,j < l.length → l[j]? = ops[k + j]?) → k + l.length = n → HeadInv md ops n listed →
  Region.lexHead md ops g l.length k listed = true → wpQuiet P ops C Lq l a →
  wpAnyLQ P md ops C n (fun listed' a' => Region.seqB md ops g n listed' = true ∧ Lq a') l.length listed a
 | [],k,listed,a,_,hk,_,hB,h => by
  have:k = n:=by simpa using hk
  subst this
  exact ⟨by simpa [Region.lexHead] using hB,h⟩
 | o :: l,k,listed,a,hl,hk,inv,hB,h => by
  have h0:ops[k]? = some o:=by simpa using (hl 0 (by simp)).symm
  simp only [List.length_cons,Region.lexHead,Bool.and_eq_true] at hB
  obtain ⟨⟨hr,hf⟩,hB'⟩:=hB
  have hkn:k < n:=by simp only [List.length_cons] at hk; omega
  have hr':k ∈ Region.ready md ops listed:=by simpa using hr
  have hst:qOp P ops C k (wpQuiet P ops C Lq l) a:=by unfold qOp; simp only [h0]; exact h
  obtain ⟨v,hy,hK⟩:=yieldsIn_of_qOp h0 hst
  exact wpAnyLQ_first h0 (Region.noSelect_spec hsel) hs hc hn hkn (fun listed' a' hL => seqB_ready hL.1) l.length listed a inv (Region.free_spec h0 hf) hr' hy
   (wpAnyLQ_lex hsel hs hc hn l (k + 1) _ _ (fun j hj => by have:=hl (j + 1) (by simp; omega); simpa [Nat.add_assoc,Nat.add_comm 1 j] using this) (by simp only [List.length_cons] at hk; omega) (inv.set hr' hkn) hB' hK)

/-! A gate: the first n operations are quiet, the last of them waits for all the others, and whatever follows waits for it. -/
/-! A call in the middle: n quiet operations ahead of it, all that follows leaves the world alone. -/
theorem wpOp_of {Q:Exit → Act → World → Prop} {i:Nat} {o:Oper} {K:Act → World → Prop} {a:Act} {w:World} (ho:ops[i]? = some o)
  (h:if Region.wanted o (yielded ops a.tmps) = true then Oper.wp P o a w K Q else K (a.put o.dst undef) w):wpOp P ops Q i K a w:=by
 unfold wpOp
 simp only [ho]
 split
 ·rename_i hw; simp only [hw,if_true] at h; exact .inl h
 ·rename_i hw; simp only [hw] at h; exact h

def idxB (md:Region.Mode) (ops:Array Oper):List Nat → Array Bool → Bool
 | [],listed => (Region.ready md ops listed).isEmpty
 | k :: ks,listed => decide (Region.ready md ops listed = [k]) && idxB md ops ks (listed.setIfInBounds k true)
def pickL (ks:List Nat) (l:List Oper):List Oper:=ks.flatMap fun k => (l.drop k).take 1
theorem wpAny_of_idx {Q':Exit → Act → World → Prop} {l:List Oper}:∀ (ks:List Nat) (listed:Array Bool) (a:Act) (w:World),
  idxB md l.toArray ks listed = true → wpList P l.toArray Q' (pickL ks l) a w → wpAny P md l.toArray Q' ks.length listed a w
 | [],_,_,_,hB,h => ⟨by simpa [idxB] using hB,h⟩
 | k :: ks,listed,a,w,hB,h => by
  simp only [idxB,Bool.and_eq_true,decide_eq_true_eq] at hB
  have hk:k ∈ Region.ready md l.toArray listed:=by rw [hB.1]; simp
  obtain ⟨_,o,ho,_⟩:=mem_ready.1 hk
  have ho':l[k]? = some o:=by simpa using ho
  have hp:pickL (k :: ks) l = o :: pickL ks l:=by
   have hkl:k < l.length:=(List.getElem?_eq_some_iff.1 ho').1
   have e:(l.drop k).take 1 = [o]:=by
    rw [List.drop_eq_getElem_cons hkl]
    have:=(List.getElem?_eq_some_iff.1 ho').2
    simp [this]
   simp [pickL,e]
  rw [hp] at h
  refine ⟨fun h1 => (by rw [hB.1] at h1; cases h1),fun i hi => ?_⟩
  rw [hB.1] at hi
  have hik:i = k:=by simpa using hi
  subst hik
  have hw:wpOp P l.toArray Q' i (wpList P l.toArray Q' (pickL ks l)) a w:=by unfold wpOp; simp only [ho]; exact h
  exact wpOp_mono (fun a' w' h' => wpAny_of_idx ks _ a' w' hB.2 h') hw

theorem wp_region_quiet_tail {id:Nat} {Q:Exit → Act → World → Prop} {a:Act} {w:World} {l:List Oper} (n:Nat) (hm:P.follows .mixedOrders = true) (hB:Region.lexTailB .any l.toArray n = true) (hC:C { w with drawn:=w.drawn + 1 })
  (h:wpQuiet P l.toArray C (fun a' => ∀ w',C w' → wpList P l.toArray Q (l.drop n) a' w') (l.take n) a):(Code.region id l.toArray true).wp P Q a w:=by
 simp only [Region.lexTailB,Bool.and_eq_true,decide_eq_true_eq] at hB
 obtain ⟨⟨⟨⟨hsel,hn⟩,hs⟩,hc⟩,hlex⟩:=hB
 have hn':n < l.length:=by simpa using hn
 have htl:(l.take n).length = n:=by simp; omega
 have hdl:(l.drop n).length = l.toArray.size - n:=by simp
 have inv0:HeadInv .any l.toArray n (Array.replicate l.toArray.size false):=
  ⟨by simp,fun j oj _ hl => (by rw [getD_replicate_false] at hl; cases hl),fun t _ ht => getD_in (by simpa using ht) (getD_replicate_false _ _)⟩
 have H:=wpAnyLQ_lex (C:=C) (md:=.any) (g:=l.toArray.size - n) hsel hs hc hn (l.take n) 0 _ a (fun j hj => by
  have hj':j < n:=by rw [htl] at hj; exact hj
  simp [hj']) (by simpa using htl) inv0 (by rw [htl]; exact hlex) h
 refine wp_region_any hm ?_
 have:=wpAny_of_headQ (C:=C) (Q':=Q) (g:=l.toArray.size - n) (fun listed a' w' hw' hL => by
  have:=wpAny_of_seq (md:=.any) (Q':=Q) (l.drop n) n listed a' w' (fun j => by simp [List.getElem?_drop]) (by rw [hdl]; exact hL.1) (hL.2 w' hw')
  rwa [hdl] at this) _ _ _ _ hC H
 rw [htl,show n + (l.toArray.size - n) = l.toArray.size by omega] at this
 exact this

theorem wp_region_grown_tail {id:Nat} {Q:Exit → Act → World → Prop} {a:Act} {w:World} {l:List Oper} (n:Nat) (hm:P.follows .mixedOrders = true) (hB:Region.lexTailB .any l.toArray n = true)
  (h:wpQuiet P l.toArray (fun w' => ∃ p:Regrown,w' = grow (redrawn w p.d) p.os) (fun a' => ∀ w',(∃ p:Regrown,w' = grow (redrawn w p.d) p.os) → wpList P l.toArray Q (l.drop n) a' w') (l.take n) a):(Code.region id l.toArray true).wp P Q a w:=
 wp_region_quiet_tail (C:=fun w' => ∃ p:Regrown,w' = grow (redrawn w p.d) p.os) n hm hB ⟨⟨w.drawn + 1,#[]⟩,by rw [grow_empty]; rfl⟩ h
end
end Go.Proofs.YtjldgcebadojiaaGreatDoor
namespace Go.Proofs.YtjldgcebadojiaaGreatDoor
open Go.Sort Go.RowKit
set_option linter.unusedSimpArgs false
set_option linter.unusedVariables false
section
variable {P:Program} {ops:Array Oper} {md:Region.Mode}
def UpOf (b:World):World → Prop:=fun w' => ∃ p:Regrown,w' = grow (redrawn b p.d) p.os
theorem UpOf.below {b w':World} (h:UpOf b w'):Below b.heap.size b w':=by
 obtain ⟨p,rfl⟩:=h
 exact below_regrown b p.d p.os
theorem UpOf.of {b w':World} (h:Below b.heap.size b w'):UpOf b w':=regrown_of_below h
theorem UpOf.refl (w:World):UpOf w w:=UpOf.of (Below.refl _ _)
theorem put_tmps (a:Act) (d:Option Tmp) (v:Value) (e:Tmp) (h:d ≠ some e):(a.put d v).tmps[e]? = a.tmps[e]?:=by
 cases d with
 | none => rfl
 | some d =>
  have hne:d ≠ e:=fun he => h (by rw [he])
  simp [Act.put,Array.getElem?_setIfInBounds_ne hne]
theorem put_size (a:Act) (d:Option Tmp) (v:Value):(a.put d v).tmps.size = a.tmps.size:=by
 cases d <;> simp [Act.put]
def dstOnce (ops:Array Oper):Bool:=
 (List.range ops.size).all fun i => (List.range ops.size).all fun j => decide (i = j) || match ops[i]?,ops[j]? with
  | some oi,some oj => oi.dst.isNone || decide (oi.dst ≠ oj.dst)
  | _,_ => true
def lexOrd (md:Region.Mode) (ops:Array Oper):Bool:=
 (List.range ops.size).all fun i => match ops[i]? with
  | some o => o.after.all fun e => !Region.binds md e || decide (e.on < i)
  | none => true
theorem all_listed (h:lexOrd md ops = true) {listed:Array Bool} (hr:Region.ready md ops listed = []) (hsz:listed.size = ops.size):∀ i,i < ops.size → listed.getD i true = true:=by
 intro i
 induction i using Nat.strongRecOn with
 | _ i ih =>
  intro hi
  cases hl:listed.getD i true with
  | true => rfl
  | false =>
   have h1:=List.all_eq_true.1 h i (List.mem_range.2 hi)
   have hoi:ops[i]? = some ops[i]:=Array.getElem?_eq_getElem hi
   have:i ∈ Region.ready md ops listed:=by
    refine mem_ready.2 ⟨hl,ops[i],hoi,fun e he hb => ?_⟩
    simp only [hoi] at h1
    have h2:=Array.all_eq_true_iff_forall_mem.1 h1 e he
    simp only [hb,Bool.not_true,Bool.false_or,decide_eq_true_eq] at h2
    have h3:=ih e.on h2 (by omega)
    have h4:e.on < listed.size:=by omega
    simp [h4] at h3 ⊢
    exact h3
   rw [hr] at this
   cases this
structure NewVar (md:Region.Mode) (ops:Array Oper) (m s:Nat) (om os:Oper) (dm dv:Tmp) (T:TypeId):Prop where
 lex:lexOrd md ops = true
 once:dstOnce ops = true
 sel:Region.noSelect ops = true
 hm:ops[m]? = some om
 hs:ops[s]? = some os
 md_:om.dst = some dm
 sd:os.dst = none
 mg:om.guard = none
 sg:os.guard = none
 ma:∀ e ∈ om.after,Region.binds md e = false
 store:os.op = .store T (.tmp dm) (.tmp dv)
 ne:dm ≠ dv
 waits:Region.waitsFor md ops s m = true
 value:∀ k ok,ops[k]? = some ok → ok.dst = some dv → Region.waitsFor md ops s k = true
 apart:∀ k ok,ops[k]? = some ok → k ≠ m → k ≠ s → om.apart ops ok = true
def newVarB (md:Region.Mode) (ops:Array Oper) (m s:Nat) (om os:Oper) (dm dv:Tmp):Bool:=
 lexOrd md ops && dstOnce ops && Region.noSelect ops && decide (om.dst = some dm) && decide (os.dst = none) && om.guard.isNone && os.guard.isNone && om.after.all (fun e => !Region.binds md e) && decide (dm ≠ dv) &&
  Region.waitsFor md ops s m && ((List.range ops.size).all fun k => match ops[k]? with
   | some ok => (decide (ok.dst ≠ some dv) || Region.waitsFor md ops s k) && (decide (k = m) || decide (k = s) || om.apart ops ok)
   | none => true)
theorem NewVar.of {m s:Nat} {om os:Oper} {dm dv:Tmp} {T:TypeId} (hm:ops[m]? = some om) (hs:ops[s]? = some os) (hst:os.op = .store T (.tmp dm) (.tmp dv)) (h:newVarB md ops m s om os dm dv = true):NewVar md ops m s om os dm dv T:=by
 simp only [newVarB,Bool.and_eq_true,decide_eq_true_eq] at h
 obtain ⟨⟨⟨⟨⟨⟨⟨⟨⟨⟨h1,h2⟩,h3⟩,h4⟩,h5⟩,h6⟩,h7⟩,h8⟩,h9⟩,h10⟩,h11⟩:=h
 refine ⟨h1,h2,h3,hm,hs,h4,h5,by simpa using h6,by simpa using h7,fun e he => ?_,hst,h9,h10,fun k ok hk hd => ?_,fun k ok hk hkm hks => ?_⟩
 ·have:=Array.all_eq_true_iff_forall_mem.1 h8 e he
  simpa using this
 ·have h:=List.all_eq_true.1 h11 k (List.mem_range.2 (Array.getElem?_eq_some_iff.1 hk).1)
  simp only [hk,Bool.and_eq_true,Bool.or_eq_true,decide_eq_true_eq,hd] at h
  simpa using h.1
 ·have h:=List.all_eq_true.1 h11 k (List.mem_range.2 (Array.getElem?_eq_some_iff.1 hk).1)
  simp only [hk,Bool.and_eq_true,Bool.or_eq_true,decide_eq_true_eq,hkm,hks,false_or] at h
  exact h.2
variable {m s:Nat} {om os:Oper} {dm dv:Tmp} {T:TypeId} {F:Act} {w:World}
def Made (w:World) (T:TypeId) (cs:Array Value) (b:Nat) (w':World):Prop:=w.heap.size ≤ b ∧ Blok w' b T cs ∧ Below w.heap.size w w'
theorem Made.below {w w' w'':World} {cs:Array Value} {b:Nat} (h:Made w T cs b w') (hb:Below w'.heap.size w' w''):Made w T cs b w'':=
 ⟨h.1,h.2.1.below hb h.2.1.lt,h.2.2.trans (hb.mono h.2.2.size)⟩
end
end Go.Proofs.YtjldgcebadojiaaGreatDoor
