/- Several texts of mine in one: NumMath, DWords2, Facts4, DWords3, DForm. No condition. -/
import Derived.Test.YtjldgcebadojiaaGreatDoorGQ18
import Derived.Test.YtjldgcebadojiaaGreatDoorGQ21
import Derived.Test.YtjldgcebadojiaaGreatDoorGQ10
import Derived.Test.YtjldgcebadojiaaGreatDoorGQ16
import Derived.Deep.DeepCutAuto
import Derived.Test.YtjldgcebadojiaaGreatDoorGQ9
import Derived.Deep.CutBlock
import Derived.Maps.AppendAt
namespace Go.Proofs.YtjldgcebadojiaaGreatDoor

def allDig (l:List UInt8):Prop:=∀ c ∈ l,48 ≤ c.toNat ∧ c.toNat ≤ 57
def dstep (n:Nat) (c:UInt8):Nat:=10 * n + (c.toNat - 48)
def dval (n:Nat) (l:List UInt8):Nat:=l.foldl dstep n

theorem dval_nil (n:Nat):dval n [] = n:=rfl
theorem dval_cons (n:Nat) (c:UInt8) (r:List UInt8):dval n (c :: r) = dval (10 * n + (c.toNat - 48)) r:=by show List.foldl dstep n (c :: r) = List.foldl dstep (10 * n + (c.toNat - 48)) r; rw [List.foldl_cons,dstep]
theorem dval_ge (l:List UInt8):∀ n:Nat,n ≤ dval n l:=by
 induction l with
 | nil => intro n; rw [dval_nil]; exact Nat.le_refl _
 | cons c r ih =>
  intro n
  have:=ih (10 * n + (c.toNat - 48))
  rw [dval_cons]
  omega
theorem dval_snoc (l:List UInt8) (c:UInt8):∀ n,dval n (l ++ [c]) = 10 * dval n l + (c.toNat - 48):=by
 induction l with
 | nil => intro n; rw [List.nil_append,dval_cons,dval_nil,dval_nil]
 | cons a l ih => intro n; rw [List.cons_append,dval_cons,dval_cons]; exact ih _

theorem dfold_cons (n:Int) (c:UInt8) (r:List UInt8):dfold n (c :: r) = if 48 ≤ c.toNat ∧ c.toNat ≤ 57 ∧ n ≤ (9223372036854775807 - ((c.toNat:Int) - 48)) / 10 then dfold (n * 10 + ((c.toNat:Int) - 48)) r else none:=by rw [dfold]

theorem dfold_iff (l:List UInt8):∀ (n:Nat) (m:Int),n ≤ 9223372036854775807 → (dfold (n:Int) l = some m ↔ allDig l ∧ dval n l ≤ 9223372036854775807 ∧ m = (dval n l:Int)):=by
 induction l with
 | nil =>
  intro n m h
  rw [dval_nil]
  constructor
  ·intro h2
   rw [dfold,Option.some.injEq] at h2
   have h3:=h2
   exact ⟨(fun c hc => by cases hc),h,h3.symm⟩
  ·rintro ⟨_,_,h3⟩
   rw [dfold,h3]
 | cons c r ih =>
  intro n m h
  rw [dfold_cons,dval_cons]
  by_cases hc:48 ≤ c.toNat ∧ c.toNat ≤ 57
  ·obtain ⟨h1,h2⟩:=hc
   by_cases hm:(n:Int) ≤ (9223372036854775807 - ((c.toNat:Int) - 48)) / 10
   ·rw [if_pos ⟨h1,h2,hm⟩]
    have e:(n:Int) * 10 + ((c.toNat:Int) - 48) = ((10 * n + (c.toNat - 48):Nat):Int):=by omega
    rw [e,ih _ _ (by omega)]
    constructor
    ·rintro ⟨k1,k2,k3⟩
     refine ⟨fun x hx => ?_,k2,k3⟩
     rcases List.mem_cons.1 hx with rfl | hx
     ·exact ⟨h1,h2⟩
     ·exact k1 x hx
    ·rintro ⟨k1,k2,k3⟩
     exact ⟨fun x hx => k1 x (List.mem_cons_of_mem _ hx),k2,k3⟩
   ·rw [if_neg (fun h => hm h.2.2)]
    constructor
    ·intro h; cases h
    ·rintro ⟨_,h4,_⟩
     exfalso
     have:=dval_ge r (10 * n + (c.toNat - 48))
     omega
  ·rw [if_neg (fun h => hc ⟨h.1,h.2.1⟩)]
   constructor
   ·intro h; cases h
   ·rintro ⟨h3,_⟩
    exact absurd (h3 c (List.mem_cons_self ..)) hc

theorem canon:∀ (k:Nat) (l:List UInt8),l.length ≤ k → allDig l → lead l = false → Lib.decDigits (dval 0 l) = l
 | 0,l,hk,_,hl => by
  have:l = []:=List.length_eq_zero_iff.1 (by omega)
  subst this
  simp [lead] at hl
 | k + 1,l,hk,hd,hl => by
  rcases List.eq_nil_or_concat l with rfl | ⟨l',c,rfl⟩
  ·simp [lead] at hl
  ·have hc:48 ≤ c.toNat ∧ c.toNat ≤ 57:=hd c (by simp)
   have ec:UInt8.ofNat (48 + (c.toNat - 48)) = c:=by
    rw [show 48 + (c.toNat - 48) = c.toNat by omega]
    exact UInt8.ofNat_toNat
   rw [List.concat_eq_append] at *
   cases l' with
   | nil =>
    rw [List.nil_append,dval_cons,dval_nil,show 10 * 0 + (c.toNat - 48) = c.toNat - 48 by omega,Lib.decDigits_one (by omega),ec]
   | cons a r =>
    have ha:a ≠ 48:=by
     intro ha
     subst ha
     simp [lead] at hl
    have hl':lead (a :: r) = false:=by
     have:¬ (a == 48) = true:=by simpa using ha
     simp [lead,ha]
    have hd':allDig (a :: r):=fun x hx => hd x (by simp only [List.mem_append]; exact .inl hx)
    have ih:=canon k (a :: r) (by simp at hk ⊢; omega) hd' hl'
    have hpos:dval 0 (a :: r) ≠ 0:=by
     intro h0
     rw [h0] at ih
     rw [Lib.decDigits_one (by omega)] at ih
     simp only [List.cons.injEq] at ih
     exact ha ih.1.symm
    rw [dval_snoc,Lib.decDigits,dif_neg (by omega)]
    rw [show (10 * dval 0 (a :: r) + (c.toNat - 48)) / 10 = dval 0 (a :: r) by omega,show (10 * dval 0 (a :: r) + (c.toNat - 48)) % 10 = c.toNat - 48 by omega,ih,ec]

theorem parseF_some {l:List UInt8} {high k:Int}:parseF l high = some k ↔ lead l = false ∧ dfold 0 l = some k ∧ k ≤ high:=by
 unfold parseF
 by_cases hl:lead l = true
 ·rw [if_pos hl]
  constructor
  ·intro h; cases h
  ·rintro ⟨h,_⟩; rw [hl] at h; cases h
 ·rw [if_neg hl]
  have hl':lead l = false:=by simpa using hl
  cases hd:dfold 0 l with
  | none =>
   constructor
   ·intro h; cases h
   ·rintro ⟨_,h,_⟩; cases h
  | some n =>
   show (if n ≤ high then some n else none) = some k ↔ _
   constructor
   ·intro h
    by_cases hn:n ≤ high
    ·rw [if_pos hn] at h
     simp only [Option.some.injEq] at h
     subst h
     exact ⟨hl',rfl,hn⟩
    ·rw [if_neg hn] at h; cases h
   ·rintro ⟨_,h,hk⟩
    simp only [Option.some.injEq] at h
    subst h
    rw [if_pos hk]

theorem dfold0 (l:List UInt8) (m:Int):dfold 0 l = some m ↔ allDig l ∧ dval 0 l ≤ 9223372036854775807 ∧ m = (dval 0 l:Int):=dfold_iff l 0 m (by omega)

theorem itoa_parse {l:List UInt8} {high k:Int} (h:parseF l high = some k):Lib.itoa k = l ∧ 0 ≤ k ∧ k ≤ high ∧ k ≤ 9223372036854775807:=by
 obtain ⟨h1,h2,h3⟩:=parseF_some.1 h
 obtain ⟨k1,k2,rfl⟩:=(dfold0 l k).1 h2
 refine ⟨?_,by omega,h3,by omega⟩
 unfold Lib.itoa
 rw [if_neg (by omega),Int.toNat_natCast]
 exact canon _ l (Nat.le_refl _) k1 h1

end Go.Proofs.YtjldgcebadojiaaGreatDoor
namespace Go.Proofs.YtjldgcebadojiaaGreatDoor
open Go.ChangeShapes Go.WideShapes Go.ChangeAt Go.RowKit Go.Sort
set_option linter.unusedSimpArgs false
set_option linter.unusedVariables false
def numsD (d:Dr):List Int:=
 if d.op = 1 ∧ d.kd = 1 then nums0 d
 else if d.op = 2 ∧ d.kd = 1 then nums1 d
 else if d.op = 3 ∧ d.kd = 1 then nums2 d
 else if d.op = 1 ∧ d.kd = 2 then nums3 d
 else if d.op = 2 ∧ d.kd = 2 then nums4 d
 else if d.op = 3 ∧ d.kd = 2 then nums5 d
 else []
def wordsD (d:Dr):List Bytes:=[gS opW d.op.toNat,gS kdW d.kd.toNat] ++ (numsD d).map Lib.itoa
theorem form_nums (d:Dr) (hk:knownD d = true):∃ f1 f2 f3 y,formV d.op d.kd = some (formOf f1 f2 f3) ∧ FormC d f1 f2 f3 (numsD d) y (mayD d) ∧ keepD d = withDo y d.op d.kd ∧ (d.op = 1 ∨ d.op = 2 ∨ d.op = 3) ∧ (d.kd = 1 ∨ d.kd = 2):=by
 by_cases c0:d.op = 1 ∧ d.kd = 1
 ·have e1:numsD d = nums0 d:=by unfold numsD; simp [c0]
  have e2:mayD d = may0 d:=by unfold mayD; simp [c0]
  refine ⟨157,158,159,fill0 d,by unfold formV; simp [c0],?_,by unfold keepD; simp [c0],by omega,by omega⟩
  rw [e1,e2]
  exact formC0 d
 by_cases c1:d.op = 2 ∧ d.kd = 1
 ·have e1:numsD d = nums1 d:=by unfold numsD; simp [c1]
  have e2:mayD d = may1 d:=by unfold mayD; simp [c1]
  refine ⟨160,161,162,fill1 d,by unfold formV; simp [c1],?_,by unfold keepD; simp [c1],by omega,by omega⟩
  rw [e1,e2]
  exact formC1 d
 by_cases c2:d.op = 3 ∧ d.kd = 1
 ·have e1:numsD d = nums2 d:=by unfold numsD; simp [c2]
  have e2:mayD d = may2 d:=by unfold mayD; simp [c2]
  refine ⟨164,165,166,fill2 d,by unfold formV; simp [c2],?_,by unfold keepD; simp [c2],by omega,by omega⟩
  rw [e1,e2]
  exact formC2 d
 by_cases c3:d.op = 1 ∧ d.kd = 2
 ·have e1:numsD d = nums3 d:=by unfold numsD; simp [c3]
  have e2:mayD d = may3 d:=by unfold mayD; simp [c3]
  refine ⟨167,168,169,fill3 d,by unfold formV; simp [c3],?_,by unfold keepD; simp [c3],by omega,by omega⟩
  rw [e1,e2]
  exact formC3 d
 by_cases c4:d.op = 2 ∧ d.kd = 2
 ·have e1:numsD d = nums4 d:=by unfold numsD; simp [c4]
  have e2:mayD d = may4 d:=by unfold mayD; simp [c4]
  refine ⟨170,171,172,fill4 d,by unfold formV; simp [c4],?_,by unfold keepD; simp [c4],by omega,by omega⟩
  rw [e1,e2]
  exact formC4 d
 by_cases c5:d.op = 3 ∧ d.kd = 2
 ·have e1:numsD d = nums5 d:=by unfold numsD; simp [c5]
  have e2:mayD d = may5 d:=by unfold mayD; simp [c5]
  refine ⟨174,175,176,fill5 d,by unfold formV; simp [c5],?_,by unfold keepD; simp [c5],by omega,by omega⟩
  rw [e1,e2]
  exact formC5 d
 exfalso
 unfold knownD formV at hk
 simp [c0,c1,c2,c3,c4,c5] at hk
end Go.Proofs.YtjldgcebadojiaaGreatDoor
namespace Go.Proofs.YtjldgcebadojiaaGreatDoor
open Go.Sort Go.RowKit
set_option linter.unusedSimpArgs false
set_option linter.unusedVariables false
section
variable {P:Program} {ops:Array Oper}
theorem wpOp_runs {Q:Exit → Act → World → Prop} {i:Nat} {o:Oper} {K:Act → World → Prop} {a:Act} {w w':World} {v:Value} (ho:ops[i]? = some o) (hg:o.guard = none) (hr:(execOp a.eval o).run P w = .ok (.value v) w') (hK:K (a.put o.dst v) w'):wpOp P ops Q i K a w:=by
 refine wpOp_of ho ?_
 rw [if_pos (by simp [Region.wanted,hg])]
 unfold Oper.wp
 rw [hr]
 exact hK
end
end Go.Proofs.YtjldgcebadojiaaGreatDoor
namespace Go.Proofs.YtjldgcebadojiaaGreatDoor
open Go.ChangeShapes Go.WideShapes Go.ChangeAt Go.RowKit Go.Sort
set_option linter.unusedSimpArgs false
set_option linter.unusedVariables false
theorem opw_ex (w:World):Calls Tryz.prog 107 #[] w fun e w' => ∃ b,e = .returned (.slice (some ⟨b,0,none⟩) 4 4) ∧ Sl w' w'.heap.size 1 (some ⟨b,0,none⟩) 4 4 (vs opW) ∧ Below w.heap.size w w':=
 (opw_any w).mono fun e w' ⟨h1,h2,h3⟩ => ⟨_,h1,h2,h3⟩
theorem kdw_ex (w:World):Calls Tryz.prog 108 #[] w fun e w' => ∃ b,e = .returned (.slice (some ⟨b,0,none⟩) 3 3) ∧ Sl w' w'.heap.size 1 (some ⟨b,0,none⟩) 3 3 (vs kdW) ∧ Below w.heap.size w w':=
 (kdw_any w).mono fun e w' ⟨h1,h2,h3⟩ => ⟨_,h1,h2,h3⟩
def Off (A:Option Addr) (n:Nat) (v:Value):Prop:=∀ ad,A = some ad → 0 < n → ∀ g,v.ownBlock = some g → ad.block ≠ g
theorem Off.next {w:World} {A:Option Addr} {n c K:Nat} {xs:List Value} {v v':Value} (h:Off A n v) (hs:Sl w w.heap.size K A n c xs) (hv:v'.ownBlock = v.ownBlock ∨ v'.ownBlock = some w.heap.size):Off A n v':=by
 intro ad e hn g hg
 rcases hv with hv | hv
 ·rw [hv] at hg
  exact h ad e hn g hg
 ·rw [hv] at hg
  injection hg with hg
  obtain ⟨ad',e',hlt,_⟩:=hs.lst.2 hn
  rw [e] at e'
  injection e' with e'
  subst e'
  omega
def formLen (op kd:Int):Nat:=if op = 1 ∧ kd = 1 then 6 else if op = 2 ∧ kd = 1 then 1 else if op = 3 ∧ kd = 1 then 2 else if op = 1 ∧ kd = 2 then 5 else if op = 2 ∧ kd = 2 then 3 else if op = 3 ∧ kd = 2 then 4 else 0
def gI (ns:List Int) (k:Nat):Int:=ns.getD k 0
def madeD (op kd:Int) (ns:List Int):Dr:=
 if op = 1 ∧ kd = 1 then ⟨op,kd,gI ns 0,gI ns 1,gI ns 2,gI ns 3,gI ns 4,gI ns 5,0,0,0,0,0⟩
 else if op = 2 ∧ kd = 1 then ⟨op,kd,gI ns 0,0,0,0,0,0,0,0,0,0,0⟩
 else if op = 3 ∧ kd = 1 then ⟨op,kd,gI ns 0,0,0,0,0,gI ns 1,0,0,0,0,0⟩
 else if op = 1 ∧ kd = 2 then ⟨op,kd,0,0,0,0,0,0,gI ns 0,gI ns 1,gI ns 2,gI ns 3,gI ns 4⟩
 else if op = 2 ∧ kd = 2 then ⟨op,kd,0,0,0,0,0,0,gI ns 0,gI ns 1,gI ns 2,0,0⟩
 else if op = 3 ∧ kd = 2 then ⟨op,kd,0,0,0,0,0,0,gI ns 0,gI ns 1,gI ns 2,0,gI ns 3⟩
 else ⟨op,kd,0,0,0,0,0,0,0,0,0,0,0⟩
structure Form (op kd:Int) (f1 f2 f3:FuncId):Prop where
 fv:formV op kd = some (formOf f1 f2 f3)
 e1:EnterF f1
 e2:EnterF f2
 e3:EnterF f3
 nums:∀ w,Calls Tryz.prog f1 #[.agg #[.int .i64 0,.int .i64 0,.int .i64 0,.int .i64 0,.int .i64 0,.int .i64 0,.int .i64 0,.int .i64 0,.int .i64 0,.int .i64 0,.int .i64 0,.int .i64 0,.int .i64 0]] w fun e w' => ∃ A c,e = .returned (.slice A (formLen op kd) c) ∧ Below w.heap.size w w'
 fill:∀ (ns:List Int),ns.length = formLen op kd → ∀ (A:Option Addr) (c:Nat) (w:World),Sl w w.heap.size 1 A (formLen op kd) c (ns.map (Value.int .i64)) → Calls Tryz.prog 111 #[.int .i64 op,.int .i64 kd,.agg #[.func (.func f1) #[] #[],.func (.func f2) #[] #[],.func (.func f3) #[] #[]],.slice A (formLen op kd) c] w fun e w' => e = .returned (.agg #[.int .i64 (madeD op kd ns).op,.int .i64 (madeD op kd ns).kd,.int .i64 (madeD op kd ns).id,.int .i64 (madeD op kd ns).fr,.int .i64 (madeD op kd ns).tn,.int .i64 (madeD op kd ns).st,.int .i64 (madeD op kd ns).en,.int .i64 (madeD op kd ns).rt,.int .i64 (madeD op kd ns).rf,.int .i64 (madeD op kd ns).rn,.int .i64 (madeD op kd ns).rs,.int .i64 (madeD op kd ns).re,.int .i64 (madeD op kd ns).ro]) ∧ Below w.heap.size w w'
 may:∀ (ns:List Int),ns.length = formLen op kd → ∀ w,Calls Tryz.prog f3 #[.agg #[.int .i64 (madeD op kd ns).op,.int .i64 (madeD op kd ns).kd,.int .i64 (madeD op kd ns).id,.int .i64 (madeD op kd ns).fr,.int .i64 (madeD op kd ns).tn,.int .i64 (madeD op kd ns).st,.int .i64 (madeD op kd ns).en,.int .i64 (madeD op kd ns).rt,.int .i64 (madeD op kd ns).rf,.int .i64 (madeD op kd ns).rn,.int .i64 (madeD op kd ns).rs,.int .i64 (madeD op kd ns).re,.int .i64 (madeD op kd ns).ro]] w fun e w' => e = .returned (.bool (mayD (madeD op kd ns))) ∧ Below w.heap.size w w'
theorem form0:Form 1 1 157 158 159 where
 fv:=rfl
 e1:=(formC0 zeroDr).e1
 e2:=(formC0 zeroDr).e2
 e3:=(formC0 zeroDr).e3
 nums:=fun w => ((formC0 zeroDr).nums w).mono fun e w' ⟨v,h1,h2,h3⟩ => by
  obtain ⟨A,c,rfl⟩:=slice_of_own h2
  exact ⟨A,c,h1,h3⟩
 fill:=fun ns hn A c w h => by
  match ns,hn,h with
  | [a0,a1,a2,a3,a4,a5],_,h =>
   exact made_any _ _ _ A 6 c [a0,a1,a2,a3,a4,a5] (fill0 (madeD 1 1 [a0,a1,a2,a3,a4,a5])) 1 1 (formC0 zeroDr).e2 (fun w => (formC0 (madeD 1 1 [a0,a1,a2,a3,a4,a5])).fill A c w) w h
 may:=fun ns hn w => (formC0 (madeD 1 1 ns)).may w
theorem form1:Form 2 1 160 161 162 where
 fv:=rfl
 e1:=(formC1 zeroDr).e1
 e2:=(formC1 zeroDr).e2
 e3:=(formC1 zeroDr).e3
 nums:=fun w => ((formC1 zeroDr).nums w).mono fun e w' ⟨v,h1,h2,h3⟩ => by
  obtain ⟨A,c,rfl⟩:=slice_of_own h2
  exact ⟨A,c,h1,h3⟩
 fill:=fun ns hn A c w h => by
  match ns,hn,h with
  | [a0],_,h =>
   exact made_any _ _ _ A 1 c [a0] (fill1 (madeD 2 1 [a0])) 2 1 (formC1 zeroDr).e2 (fun w => (formC1 (madeD 2 1 [a0])).fill A c w) w h
 may:=fun ns hn w => (formC1 (madeD 2 1 ns)).may w
theorem form2:Form 3 1 164 165 166 where
 fv:=rfl
 e1:=(formC2 zeroDr).e1
 e2:=(formC2 zeroDr).e2
 e3:=(formC2 zeroDr).e3
 nums:=fun w => ((formC2 zeroDr).nums w).mono fun e w' ⟨v,h1,h2,h3⟩ => by
  obtain ⟨A,c,rfl⟩:=slice_of_own h2
  exact ⟨A,c,h1,h3⟩
 fill:=fun ns hn A c w h => by
  match ns,hn,h with
  | [a0,a1],_,h =>
   exact made_any _ _ _ A 2 c [a0,a1] (fill2 (madeD 3 1 [a0,a1])) 3 1 (formC2 zeroDr).e2 (fun w => (formC2 (madeD 3 1 [a0,a1])).fill A c w) w h
 may:=fun ns hn w => (formC2 (madeD 3 1 ns)).may w
theorem form3:Form 1 2 167 168 169 where
 fv:=rfl
 e1:=(formC3 zeroDr).e1
 e2:=(formC3 zeroDr).e2
 e3:=(formC3 zeroDr).e3
 nums:=fun w => ((formC3 zeroDr).nums w).mono fun e w' ⟨v,h1,h2,h3⟩ => by
  obtain ⟨A,c,rfl⟩:=slice_of_own h2
  exact ⟨A,c,h1,h3⟩
 fill:=fun ns hn A c w h => by
  match ns,hn,h with
  | [a0,a1,a2,a3,a4],_,h =>
   exact made_any _ _ _ A 5 c [a0,a1,a2,a3,a4] (fill3 (madeD 1 2 [a0,a1,a2,a3,a4])) 1 2 (formC3 zeroDr).e2 (fun w => (formC3 (madeD 1 2 [a0,a1,a2,a3,a4])).fill A c w) w h
 may:=fun ns hn w => (formC3 (madeD 1 2 ns)).may w
theorem form4:Form 2 2 170 171 172 where
 fv:=rfl
 e1:=(formC4 zeroDr).e1
 e2:=(formC4 zeroDr).e2
 e3:=(formC4 zeroDr).e3
 nums:=fun w => ((formC4 zeroDr).nums w).mono fun e w' ⟨v,h1,h2,h3⟩ => by
  obtain ⟨A,c,rfl⟩:=slice_of_own h2
  exact ⟨A,c,h1,h3⟩
 fill:=fun ns hn A c w h => by
  match ns,hn,h with
  | [a0,a1,a2],_,h =>
   exact made_any _ _ _ A 3 c [a0,a1,a2] (fill4 (madeD 2 2 [a0,a1,a2])) 2 2 (formC4 zeroDr).e2 (fun w => (formC4 (madeD 2 2 [a0,a1,a2])).fill A c w) w h
 may:=fun ns hn w => (formC4 (madeD 2 2 ns)).may w
theorem form5:Form 3 2 174 175 176 where
 fv:=rfl
 e1:=(formC5 zeroDr).e1
 e2:=(formC5 zeroDr).e2
 e3:=(formC5 zeroDr).e3
 nums:=fun w => ((formC5 zeroDr).nums w).mono fun e w' ⟨v,h1,h2,h3⟩ => by
  obtain ⟨A,c,rfl⟩:=slice_of_own h2
  exact ⟨A,c,h1,h3⟩
 fill:=fun ns hn A c w h => by
  match ns,hn,h with
  | [a0,a1,a2,a3],_,h =>
   exact made_any _ _ _ A 4 c [a0,a1,a2,a3] (fill5 (madeD 3 2 [a0,a1,a2,a3])) 3 2 (formC5 zeroDr).e2 (fun w => (formC5 (madeD 3 2 [a0,a1,a2,a3])).fill A c w) w h
 may:=fun ns hn w => (formC5 (madeD 3 2 ns)).may w
theorem form_of {op kd:Int} (h:(formV op kd).isSome = true):∃ f1 f2 f3,Form op kd f1 f2 f3 ∧ (op = 1 ∨ op = 2 ∨ op = 3) ∧ (kd = 1 ∨ kd = 2):=by
 by_cases c0:op = 1 ∧ kd = 1
 ·obtain ⟨rfl,rfl⟩:=c0
  exact ⟨_,_,_,form0,by omega,by omega⟩
 by_cases c1:op = 2 ∧ kd = 1
 ·obtain ⟨rfl,rfl⟩:=c1
  exact ⟨_,_,_,form1,by omega,by omega⟩
 by_cases c2:op = 3 ∧ kd = 1
 ·obtain ⟨rfl,rfl⟩:=c2
  exact ⟨_,_,_,form2,by omega,by omega⟩
 by_cases c3:op = 1 ∧ kd = 2
 ·obtain ⟨rfl,rfl⟩:=c3
  exact ⟨_,_,_,form3,by omega,by omega⟩
 by_cases c4:op = 2 ∧ kd = 2
 ·obtain ⟨rfl,rfl⟩:=c4
  exact ⟨_,_,_,form4,by omega,by omega⟩
 by_cases c5:op = 3 ∧ kd = 2
 ·obtain ⟨rfl,rfl⟩:=c5
  exact ⟨_,_,_,form5,by omega,by omega⟩
 exfalso
 unfold formV at h
 simp [c0,c1,c2,c3,c4,c5] at h
def parseD (l:List Bytes):Dr × Int:=
 if l.length < 2 then (zeroDr,2) else
 if (formV (opF (gS l 0)) (kdF (gS l 1))).isSome = false then (zeroDr,2) else
 match numsF (l.drop 2) with
 | none => (zeroDr,2)
 | some ns => if ns.length = formLen (opF (gS l 0)) (kdF (gS l 1)) then (if mayD (madeD (opF (gS l 0)) (kdF (gS l 1)) ns) = true then (madeD (opF (gS l 0)) (kdF (gS l 1)) ns,0) else (zeroDr,1)) else (zeroDr,2)
end Go.Proofs.YtjldgcebadojiaaGreatDoor
