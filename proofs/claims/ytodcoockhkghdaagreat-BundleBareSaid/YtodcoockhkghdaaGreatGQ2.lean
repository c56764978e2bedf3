/- Several texts of mine in one: Cmp, TyRg, SlRg, Ranges, Step, Ranges2, Ranges3, Ranges4, Ranges5, Ranges6, MapIB, TyCo, SlCo, StCo, Contacts, StepD. No condition. -/
import Derived.Test.YtodcoockhkghdaaGreatChecked
import Derived.Test.YtodcoockhkghdaaGreatGQ0
import Derived.Test.YtodcoockhkghdaaGreatGQ4
import Derived.StillTailTactics
import Derived.Deep.RegionHeld3
import Derived.Test.YtodcoockhkghdaaGreatGQ7
import Derived.Maps.OwnOps
import Derived.Maps.Views

/- cmp.Compare and cmp.Or at int. No condition. -/
namespace Go.Proofs.YtodcoockhkghdaaGreat
open Go.ChangeShapes Go.WideShapes Go.ChangeAt Go.RowKit Go.Sort
set_option linter.unusedSimpArgs false
set_option linter.unusedVariables false
def cmpI (a b:Int):Int:=if a < b then -1 else if b < a then 1 else 0
theorem cmpI_lt {a b:Int} (h:a < b):cmpI a b = -1:=if_pos h
theorem cmpI_gt {a b:Int} (h:b < a):cmpI a b = 1:=by unfold cmpI; rw [if_neg (by omega),if_pos h]
theorem cmpI_eq (a:Int):cmpI a a = 0:=by unfold cmpI; rw [if_neg (by omega),if_neg (by omega)]
theorem cmpI_zero {a b:Int}:cmpI a b = 0 ↔ a = b:=by
 unfold cmpI; constructor
 ·intro h; split at h
  ·omega
  ·split at h <;> omega
 ·rintro rfl; rw [if_neg (by omega),if_neg (by omega)]
def orF:List Int → Int
 | [] => 0
 | x :: l => if x = 0 then orF l else x
theorem nan_any (a:Int) (w:World):Calls Tryz.prog 92 #[.int .i64 a] w fun e w' => e = .returned (.bool false) ∧ w = w':=by
 have hz:(a != a) = false:=by simp
 go_enter Tryz.func92,Tryz.ntmps92
 go_wp2
 go_ret
 exact ⟨rfl,rfl⟩
theorem cmp_any (a b:Int) (w:World):Calls Tryz.prog 54 #[.int .i64 a,.int .i64 b] w fun e w' => e = .returned (.int .i64 (cmpI a b)) ∧ w = w':=by
 by_cases h1:a < b
 ·rw [cmpI_lt h1]
  go_enter Tryz.func54,Tryz.ntmps54
  go_wp2_with (go_at_call 92; refine (nan_any _ _).mono ?_; rintro e w' ⟨rfl,rfl⟩)
  go_ret
  exact ⟨rfl,rfl⟩
 ·by_cases h2:b < a
  ·rw [cmpI_gt h2]
   go_enter Tryz.func54,Tryz.ntmps54
   go_wp2_with (go_at_call 92; refine (nan_any _ _).mono ?_; rintro e w' ⟨rfl,rfl⟩)
   go_ret
   exact ⟨rfl,rfl⟩
  ·have h0:cmpI a b = 0:=cmpI_zero.2 (by omega)
   rw [h0]
   go_enter Tryz.func54,Tryz.ntmps54
   go_wp2_with (go_at_call 92; refine (nan_any _ _).mono ?_; rintro e w' ⟨rfl,rfl⟩)
   go_ret
   exact ⟨rfl,rfl⟩
theorem orF_next:∀ (l:List Int) (k:Nat),k < l.length → (∀ j,j < k → l.getD j 0 = 0) → l.getD k 0 ≠ 0 → orF l = l.getD k 0
 | x :: l,0,_,_,h => by simp [orF] at *; intro e; exact absurd e h
 | x :: l,k + 1,hk,hz,h => by
  have h0:x = 0:=by simpa using hz 0 (by omega)
  rw [orF,if_pos h0]
  simpa using orF_next l k (by simpa using hk) (fun j hj => by simpa using hz (j + 1) (by omega)) (by simpa using h)
theorem orF_zero:∀ (l:List Int),(∀ j,j < l.length → l.getD j 0 = 0) → orF l = 0
 | [],_ => rfl
 | x :: l,h => by
  have h0:x = 0:=by simpa using h 0 (by simp)
  rw [orF,if_pos h0]
  exact orF_zero l (fun j hj => by simpa using h (j + 1) (by simpa using hj))
theorem or_any (g m c:Nat) (l:List Int) (w:World) (hm:l.length = m) (hm2:m ≤ 1000) (hc:∀ k,k < m → w.cell? ⟨g,k,none⟩ = some (.int .i64 (l.getD k 0))) :
  Calls Tryz.prog 169 #[.slice (some ⟨g,0,none⟩) m c] w fun e w' => e = .returned (.int .i64 (orF l)) ∧ w = w':=by
 have HC:=Lib.hid hc
 have HM:=Lib.hid hm
 clear hc hm
 go_enter Tryz.func169,Tryz.ntmps169
 go_wp2
 go_loop [8] (fun i => ∃ k:Nat,k ≤ m ∧ i = .int .i64 k ∧ Hid (∀ j,j < k → l.getD j 0 = 0)) (fun i => m - (intOf i).toNat)
 case atStart => exact ⟨0,by omega,rfl,fun j hj => by omega⟩
 case round =>
  obtain ⟨k,hk,rfl,HZ⟩:=hrel
  by_cases hkm:k < m
  ·have hck:=HC.out k hkm
   obtain ⟨y,hy⟩:∃ y,l.getD k 0 = y:=⟨_,rfl⟩
   rw [hy] at hck
   have HY:=Lib.hid hy
   clear hy
   by_cases h0:y = 0
   ·have hb:(y != 0) = false:=by simp [h0]
    have H0:=Lib.hid h0
    clear h0
    go_wp2
    go_round
    case rel => exact ⟨k + 1,by omega,by go_num,fun j hj => by
     by_cases e:j = k
     ·rw [e,HY.out]; exact H0.out
     ·exact HZ.out j (by omega)⟩
    case measure => simp [intOf]; omega
   ·have hb:(y != 0) = true:=by simpa using h0
    have hfin:orF l = y:=by rw [← HY.out]; exact orF_next l k (by have:=HM.out; omega) HZ.out (by rw [HY.out]; exact h0)
    have HF:=Lib.hid hfin
    clear hfin h0
    go_wp2
    go_ret
    exact ⟨by rw [HF.out]; rfl,rfl⟩
  ·have hfin:orF l = 0:=orF_zero l (fun j hj => HZ.out j (by have:=HM.out; omega))
   have HF:=Lib.hid hfin
   clear hfin
   go_wp2
   go_ret
   exact ⟨by rw [HF.out]; rfl,rfl⟩
end Go.Proofs.YtodcoockhkghdaaGreat

/- api.Range: its cells, lists of it. No condition. -/
namespace Go.Proofs.YtodcoockhkghdaaGreat
open Go.ChangeShapes Go.WideShapes Go.ChangeAt Go.RowKit Go.Sort
set_option linter.unusedSimpArgs false
set_option linter.unusedVariables false
structure Rg where
 fr:Int
 tn:Int
 st:Int
 en:Int
 ow:Int
theorem Rg.ext_ {a b:Rg} (h0:a.fr = b.fr) (h1:a.tn = b.tn) (h2:a.st = b.st) (h3:a.en = b.en) (h4:a.ow = b.ow):a = b:=by cases a; cases b; simp_all
instance:DecidableEq Rg:=fun a b => if h:a.fr = b.fr ∧ a.tn = b.tn ∧ a.st = b.st ∧ a.en = b.en ∧ a.ow = b.ow then isTrue (Rg.ext_ h.1 h.2.1 h.2.2.1 h.2.2.2.1 h.2.2.2.2) else isFalse (by rintro rfl; simp at h)
def Rg.cs (r:Rg):List Value:=[.int .i64 r.fr,.int .i64 r.tn,.int .i64 r.st,.int .i64 r.en,.int .i64 r.ow]
def flatRg (d:List Rg):List Value:=d.flatMap Rg.cs
def gRg (d:List Rg) (i:Nat):Rg:=d.getD i ⟨0,0,0,0,0⟩
theorem flatRg_cons (p:Rg) (d:List Rg):flatRg (p :: d) = .int .i64 p.fr :: .int .i64 p.tn :: .int .i64 p.st :: .int .i64 p.en :: .int .i64 p.ow :: flatRg d:=rfl
theorem flatRg_at0:∀ (d:List Rg) (i:Nat),i < d.length → (flatRg d)[i * 5]? = some (.int .i64 (gRg d i).fr)
 | p :: d,0,_ => rfl
 | p :: d,i + 1,h => by
  rw [flatRg_cons,show (i + 1) * 5 = i * 5 + 1 + 1 + 1 + 1 + 1 from by omega]
  simp only [List.getElem?_cons_succ]
  exact flatRg_at0 d i (by simpa using h)
theorem flatRg_at1:∀ (d:List Rg) (i:Nat),i < d.length → (flatRg d)[i * 5 + 1]? = some (.int .i64 (gRg d i).tn)
 | p :: d,0,_ => rfl
 | p :: d,i + 1,h => by
  rw [flatRg_cons,show (i + 1) * 5 + 1 = i * 5 + 1 + 1 + 1 + 1 + 1 + 1 from by omega]
  simp only [List.getElem?_cons_succ]
  exact flatRg_at1 d i (by simpa using h)
theorem flatRg_at2:∀ (d:List Rg) (i:Nat),i < d.length → (flatRg d)[i * 5 + 2]? = some (.int .i64 (gRg d i).st)
 | p :: d,0,_ => rfl
 | p :: d,i + 1,h => by
  rw [flatRg_cons,show (i + 1) * 5 + 2 = i * 5 + 2 + 1 + 1 + 1 + 1 + 1 from by omega]
  simp only [List.getElem?_cons_succ]
  exact flatRg_at2 d i (by simpa using h)
theorem flatRg_at3:∀ (d:List Rg) (i:Nat),i < d.length → (flatRg d)[i * 5 + 3]? = some (.int .i64 (gRg d i).en)
 | p :: d,0,_ => rfl
 | p :: d,i + 1,h => by
  rw [flatRg_cons,show (i + 1) * 5 + 3 = i * 5 + 3 + 1 + 1 + 1 + 1 + 1 from by omega]
  simp only [List.getElem?_cons_succ]
  exact flatRg_at3 d i (by simpa using h)
theorem flatRg_at4:∀ (d:List Rg) (i:Nat),i < d.length → (flatRg d)[i * 5 + 4]? = some (.int .i64 (gRg d i).ow)
 | p :: d,0,_ => rfl
 | p :: d,i + 1,h => by
  rw [flatRg_cons,show (i + 1) * 5 + 4 = i * 5 + 4 + 1 + 1 + 1 + 1 + 1 from by omega]
  simp only [List.getElem?_cons_succ]
  exact flatRg_at4 d i (by simpa using h)
theorem rowsRg_of:∀ (n:Nat) (ns:List Int),ns.length = n * 5 → ∃ d:List Rg,d.length = n ∧ ns.map (Value.int .i64) = flatRg d
 | 0,[],_ => ⟨[],rfl,rfl⟩
 | 0,_ :: _,h => by simp at h
 | n + 1,a0 :: a1 :: a2 :: a3 :: a4 :: ns,h => by
  obtain ⟨d,h1,h2⟩:=rowsRg_of n ns (by simp at h; omega)
  exact ⟨⟨a0,a1,a2,a3,a4⟩ :: d,by simp [h1],by simp [flatRg_cons,h2]⟩
 | n + 1,[],h => by simp at h <;> omega
 | n + 1,[_],h => by simp at h <;> omega
 | n + 1,[_,_],h => by simp at h <;> omega
 | n + 1,[_,_,_],h => by simp at h <;> omega
 | n + 1,[_,_,_,_],h => by simp at h <;> omega

theorem Lst.atRg {w:World} {B:Nat} {A:Option Addr} {n:Nat} {l:List Rg} (h:Lst w B 5 A n (flatRg l)) (hl:l.length = n) {k:Nat} (hk:k < n):∃ ad,A = some ad ∧ ad.block < B ∧ w.cell? (ad.add (k * 5)) = some (.int .i64 (gRg l k).fr) ∧ w.cell? ⟨(ad.add (k * 5)).block,(ad.add (k * 5)).off + 1,none⟩ = some (.int .i64 (gRg l k).tn) ∧ w.cell? ⟨(ad.add (k * 5)).block,(ad.add (k * 5)).off + 2,none⟩ = some (.int .i64 (gRg l k).st) ∧ w.cell? ⟨(ad.add (k * 5)).block,(ad.add (k * 5)).off + 3,none⟩ = some (.int .i64 (gRg l k).en) ∧ w.cell? ⟨(ad.add (k * 5)).block,(ad.add (k * 5)).off + 4,none⟩ = some (.int .i64 (gRg l k).ow):=by
 obtain ⟨ad,e,hb,hc⟩:=h.at_ (by omega)
 exact ⟨ad,e,hb,hc _ _ (flatRg_at0 l k (by omega)),by rw [addr_next _ _ _ (by omega)]; exact hc _ _ (flatRg_at1 l k (by omega)),by rw [addr_next _ _ _ (by omega)]; exact hc _ _ (flatRg_at2 l k (by omega)),by rw [addr_next _ _ _ (by omega)]; exact hc _ _ (flatRg_at3 l k (by omega)),by rw [addr_next _ _ _ (by omega)]; exact hc _ _ (flatRg_at4 l k (by omega))⟩
theorem gRg_mem {d:List Rg} {i:Nat} (h:i < d.length):gRg d i ∈ d:=by
 unfold gRg; rw [List.getD_eq_getElem?_getD,List.getElem?_eq_getElem h]; simp
theorem gRg_eq {d:List Rg} {i:Nat} (h:i < d.length):gRg d i = d[i]:=by
 unfold gRg; rw [List.getD_eq_getElem?_getD,List.getElem?_eq_getElem h]; rfl
end Go.Proofs.YtodcoockhkghdaaGreat

/- The generic library's functions at 100-rows: Clone, Equal, Grow, Concat, IndexFunc, ContainsFunc, DeleteFunc. -/
namespace Go.Proofs.YtodcoockhkghdaaGreat
open Go.ChangeShapes Go.WideShapes Go.ChangeAt Go.RowKit Go.Sort
set_option linter.unusedSimpArgs false
set_option linter.unusedVariables false
/-- A function value that tells p, in whatever world that has grown from W but for this block. -/
structure PredRg (g:FuncId) (lb:Array Value) (row:Option Nat) (W:World) (p:Rg → Bool):Prop where
 run:∀ vals w,(callFunc g vals).run Tryz.prog w = .ok (.enter g vals) w
 tells:∀ w',W.grownBy w' row → ∀ x:Rg,Calls Tryz.prog g (#[.agg #[.int .i64 x.fr,.int .i64 x.tn,.int .i64 x.st,.int .i64 x.en,.int .i64 x.ow]] ++ lb) w' fun e w'' => e = .returned (.bool (p x)) ∧ Below w'.heap.size w' w''
theorem PredRg.next {g:FuncId} {lb:Array Value} {row:Option Nat} {W W':World} {p:Rg → Bool} (h:PredRg g lb row W p) (hg:W.grownBy W' row):PredRg g lb row W' p:=⟨h.run,fun w' h' x => h.tells w' (grown_trans hg h') x⟩
theorem PredRg.below {g:FuncId} {lb:Array Value} {row:Option Nat} {W W':World} {p:Rg → Bool} (h:PredRg g lb row W p) (hb:Below W.heap.size W W'):PredRg g lb row W' p:=h.next (grown_of_below hb)
end Go.Proofs.YtodcoockhkghdaaGreat

/- Package ranges: compareWays. -/
namespace Go.Proofs.YtodcoockhkghdaaGreat.Kr
open Go.ChangeShapes Go.WideShapes Go.ChangeAt Go.RowKit Go.Sort
set_option linter.unusedSimpArgs false
set_option linter.unusedVariables false
def waysI (a b:Rg):Int:=orF [cmpI a.fr b.fr,cmpI a.tn b.tn]
set_option maxHeartbeats 1000000 in
set_option maxRecDepth 100000 in
theorem ways_any (a b:Rg) (w:World):Calls Tryz.prog 133 #[.agg #[.int .i64 a.fr,.int .i64 a.tn,.int .i64 a.st,.int .i64 a.en,.int .i64 a.ow],.agg #[.int .i64 b.fr,.int .i64 b.tn,.int .i64 b.st,.int .i64 b.en,.int .i64 b.ow]] w fun e w' => e = .returned (.int .i64 (waysI a b)) ∧ Below w.heap.size w w':=by
 obtain ⟨p,hp⟩:∃ p,cmpI a.fr b.fr = p:=⟨_,rfl⟩
 obtain ⟨q,hq⟩:∃ q,cmpI a.tn b.tn = q:=⟨_,rfl⟩
 have hfin:waysI a b = orF [p,q]:=by rw [← hp,← hq]; rfl
 have HP:=Lib.hid hp
 have HQ:=Lib.hid hq
 rw [hfin]
 clear hp hq hfin
 go_enter Tryz.func133,Tryz.ntmps133
 go_wp2_with fail
 refine wp_region_still_tail 10 (by kernel_rfl) (by kernel_rfl) ?_
 change wpStill _ _ (World.drew _) (fun a' => wpList _ _ _ _ a' (World.drew _)) _ _
 simp only [List.take_succ_cons,List.take_zero,List.drop_succ_cons,List.drop_zero]
 repeat still_step
 still_call ((HP.out ▸ cmp_any a.fr b.fr _).mono fun _ _ h => ⟨h.1,h.2.symm⟩)
 repeat still_step
 still_call ((HQ.out ▸ cmp_any a.tn b.tn _).mono fun _ _ h => ⟨h.1,h.2.symm⟩)
 refine wpStill_nil ?_
 have hB:Below w.heap.size w (((w.alloc (.cells #[.int .i64 a.fr,.int .i64 a.tn,.int .i64 a.st,.int .i64 a.en,.int .i64 a.ow] 100)).alloc (.cells #[.int .i64 b.fr,.int .i64 b.tn,.int .i64 b.st,.int .i64 b.en,.int .i64 b.ow] 100)).drew):=by (repeat (first | exact Below.refl _ _ | refine Below.alloc ?_ (by first | omega | (simp; done) | (simp; omega)) _ | refine Below.setCell ?_ (by first | omega | (simp; done) | (simp; omega)) _ | refine Below.drew ?_))
 have hs:=hB.size
 generalize (((w.alloc (.cells #[.int .i64 a.fr,.int .i64 a.tn,.int .i64 a.st,.int .i64 a.en,.int .i64 a.ow] 100)).alloc (.cells #[.int .i64 b.fr,.int .i64 b.tn,.int .i64 b.st,.int .i64 b.en,.int .i64 b.ow] 100)).drew) = w2 at *
 go_wp2_with fail
 have hX:=Blok.new w2 3 #[.int .i64 p,.int .i64 q]
 refine (or_any w2.heap.size 2 2 [p,q] _ rfl (by omega) (fun k hk => by
  have hc:=hX.cell k
  have hk2:k = 0 ∨ k = 1:=by omega
  rcases hk2 with rfl | rfl <;> exact hc)).mono ?_
 rintro e w3 ⟨rfl,rfl⟩
 go_wp2
 go_ret
 exact ⟨rfl,hB.alloc hs _⟩
def cmpR (a b:Rg):Int:=orF [waysI a b,cmpI a.st b.st]
def ltR (a b:Rg):Prop:=a.fr < b.fr ∨ a.fr = b.fr ∧ (a.tn < b.tn ∨ a.tn = b.tn ∧ a.st < b.st)
theorem cmpI_spec (a b:Int):(a < b ∧ cmpI a b = -1) ∨ (a = b ∧ cmpI a b = 0) ∨ (b < a ∧ cmpI a b = 1):=by
 rcases Int.lt_trichotomy a b with h | h | h
 ·exact .inl ⟨h,cmpI_lt h⟩
 ·exact .inr (.inl ⟨h,cmpI_zero.2 h⟩)
 ·exact .inr (.inr ⟨h,cmpI_gt h⟩)
theorem cmpR_spec (a b:Rg):(ltR a b ∧ cmpR a b = -1) ∨ (a.fr = b.fr ∧ a.tn = b.tn ∧ a.st = b.st ∧ cmpR a b = 0) ∨ (ltR b a ∧ cmpR a b = 1):=by
 unfold cmpR waysI ltR
 rcases cmpI_spec a.fr b.fr with ⟨h1,e1⟩ | ⟨h1,e1⟩ | ⟨h1,e1⟩ <;> rcases cmpI_spec a.tn b.tn with ⟨h2,e2⟩ | ⟨h2,e2⟩ | ⟨h2,e2⟩ <;> rcases cmpI_spec a.st b.st with ⟨h3,e3⟩ | ⟨h3,e3⟩ | ⟨h3,e3⟩ <;>
  simp only [e1,e2,e3,orF] <;> simp <;> omega
def overR (a b:Rg):Bool:=decide (a.fr = b.fr ∧ a.tn = b.tn ∧ a.st < b.en ∧ b.st < a.en)
end Go.Proofs.YtodcoockhkghdaaGreat.Kr

/- A call of a Go function, as one step of a region that draws its order. No condition. -/
namespace Go.Proofs.YtodcoockhkghdaaGreat
open Go.ChangeShapes Go.WideShapes Go.ChangeAt Go.RowKit Go.Sort
set_option linter.unusedSimpArgs false
set_option linter.unusedVariables false
theorem step_call {P:Program} {ops:Array Oper} {o:Oper} {a:Act} {w:World} {K:Act → World → Prop} {Q:Exit → Act → World → Prop} {E:Prop} (hgd:o.guard = none) (f:FuncId) (xs:Array Operand) (ats:Array TypeId)
  (ho : o.op = .call { callee := .value (.func f), args := xs, argTypes := ats }) (vals : Array Value) (hv : #[] ++ xs.map a.eval ++ #[] = vals) {fn : Func} (hf : P.funcs[f]? = some fn) (hb : fn.body.isNone = false) (hnm : (fn.name == "runtime.NumGoroutine") = false)
  (h:Calls P f vals w fun e w' => ∃ v,e = .returned v ∧ K (a.put o.dst v) w') :
  if Region.wanted o (yielded ops a.tmps) = true then Oper.wp P o a w K Q else E:=by
 rw [if_pos (by simp [Region.wanted,hgd])]
 obtain ⟨dst,op,ty,pos,after,guard⟩:=o
 simp only at ho
 subst ho
 unfold Oper.wp
 rw [execOp_call_go,hv]
 have e:(callFunc f vals).run P w = .ok (.enter f vals) w:=by
  have h1 : fn.name ≠ "runtime.NumGoroutine" := by simpa using hnm
  have h2:fn.body ≠ none:=by intro e; rw [e] at hb; cases hb
  simp [callFunc,run_program,hf]
  rw [if_neg h1,if_neg h2]
 rw [e]
 refine h.mono ?_
 rintro e w' ⟨v,rfl,hK⟩
 exact hK
end Go.Proofs.YtodcoockhkghdaaGreat

/- Package ranges: begins, mayAdd, Add, Delete, Change, Expire, Same. -/
namespace Go.Proofs.YtodcoockhkghdaaGreat.Kr
open Go.ChangeShapes Go.WideShapes Go.ChangeAt Go.RowKit Go.Sort
set_option linter.unusedSimpArgs false
set_option linter.unusedVariables false
end Go.Proofs.YtodcoockhkghdaaGreat.Kr

/- Package ranges: mayAdd, Add, Change. -/
namespace Go.Proofs.YtodcoockhkghdaaGreat.Kr
open Go.ChangeShapes Go.WideShapes Go.ChangeAt Go.RowKit Go.Sort
set_option linter.unusedSimpArgs false
set_option linter.unusedVariables false
def okR (r:Rg):Bool:=rangeB r.fr r.tn r.st r.en r.ow
end Go.Proofs.YtodcoockhkghdaaGreat.Kr

/- Package ranges: Change, Right. -/
namespace Go.Proofs.YtodcoockhkghdaaGreat.Kr
open Go.ChangeShapes Go.WideShapes Go.ChangeAt Go.RowKit Go.Sort
set_option linter.unusedSimpArgs false
set_option linter.unusedVariables false
end Go.Proofs.YtodcoockhkghdaaGreat.Kr

/- Package ranges: Right. -/
namespace Go.Proofs.YtodcoockhkghdaaGreat.Kr
open Go.ChangeShapes Go.WideShapes Go.ChangeAt Go.RowKit Go.Sort
set_option linter.unusedSimpArgs false
set_option linter.unusedVariables false
def stepB (d:List Rg) (i:Nat):Bool:=okR (gRg d i) && (i == 0 || (decide (cmpR (gRg d (i - 1)) (gRg d i) < 0) && !overR (gRg d (i - 1)) (gRg d i)))
def rightB (d:List Rg):Bool:=decide (d.length ≤ 4096) && (List.range d.length).all (stepB d)
theorem rightB_true {d:List Rg}:rightB d = true ↔ d.length ≤ 4096 ∧ ∀ i,i < d.length → stepB d i = true:=by
 simp [rightB,List.all_eq_true]
theorem rightB_false {d:List Rg} {i:Nat} (hi:i < d.length) (h:stepB d i = false):rightB d = false:=by
 rw [Bool.eq_false_iff]
 intro e
 rw [(rightB_true.1 e).2 i hi] at h
 cases h
end Go.Proofs.YtodcoockhkghdaaGreat.Kr

/- sort.Search; package ranges: Owlt. -/
namespace Go.Proofs.YtodcoockhkghdaaGreat.Kr
open Go.ChangeShapes Go.WideShapes Go.ChangeAt Go.RowKit Go.Sort
set_option linter.unusedSimpArgs false
set_option linter.unusedVariables false
/-- A function value that tells p of places below n, in whatever world that has grown from W. -/
structure PredI (g:FuncId) (lb:Array Value) (n:Nat) (W:World) (p:Nat → Bool):Prop where
 run:∀ vals w,(callFunc g vals).run Tryz.prog w = .ok (.enter g vals) w
 tells:∀ w',Below W.heap.size W w' → ∀ i:Nat,i < n → Calls Tryz.prog g (#[.int .i64 i] ++ lb) w' fun e w'' => e = .returned (.bool (p i)) ∧ Below w'.heap.size w' w''
set_option maxHeartbeats 1000000 in
set_option maxRecDepth 100000 in
theorem search_any (n:Nat) (g:FuncId) (lb:Array Value) (p:Nat → Bool) (w:World) (hn:n ≤ 1000000) (hp:PredI g lb n w p) :
  Calls Tryz.prog 131 #[.int .i64 n,.func (.func g) #[] lb] w fun e w' => ∃ i:Nat,e = .returned (.int .i64 i) ∧ i ≤ n ∧ (i = 0 ∨ p (i - 1) = false) ∧ (i = n ∨ p i = true) ∧ Below w.heap.size w w':=by
 have hcf:=hp.run
 have HP:=Lib.hid hp
 clear hp
 go_enter Tryz.func131,Tryz.ntmps131
 go_wp2
 go_loopw [5,6] (fun iv jv wr => ∃ i j:Nat,iv = .int .i64 i ∧ jv = .int .i64 j ∧ i ≤ j ∧ j ≤ n ∧ Hid (i = 0 ∨ p (i - 1) = false) ∧ Hid (j = n ∨ p j = true) ∧ Below w.heap.size w wr) (fun iv jv _ => (intOf jv - intOf iv).toNat)
 case atStart => exact ⟨0,n,rfl,rfl,by omega,Nat.le_refl _,.inl rfl,.inl rfl,Below.refl _ _⟩
 case round =>
  obtain ⟨i,j,rfl,rfl,hij,hjn,HI,HJ,hB⟩:=hrel
  have hs:=hB.size
  by_cases hlt:i < j
  ·obtain ⟨m,hm⟩:∃ m:Nat,(i + j) / 2 = m:=⟨_,rfl⟩
   have hmi:((i:Int) + (j:Int)) / 2 = (m:Int):=by omega
   have hm1:i ≤ m:=by omega
   have hm2:m < j:=by omega
   have HM:=Lib.hid hmi
   clear hm hmi
   have ht:=HP.out.tells wr hB m (by omega)
   cases hpm:p m
   all_goals
    rw [hpm] at ht
    have HPM:=Lib.hid hpm
    have HT:=Lib.hid ht
    clear hpm ht
    go_wp2_with fail
    rw [HM.out]
    refine HT.out.mono ?_
    rintro e w1 ⟨rfl,hb1⟩
    have hB2:=hB.trans (hb1.mono hs)
    clear hb1 hB
    go_wp2
    go_roundw
    case rel => first
     | exact ⟨m + 1,j,by go_num,rfl,by omega,by omega,(.inr (by rw [Nat.add_sub_cancel]; exact HPM.out)),HJ,hB2⟩
     | exact ⟨i,m,rfl,rfl,by omega,by omega,HI,(.inr HPM.out),hB2⟩
    case measure => simp [intOf]; omega
  ·obtain rfl:i = j:=by omega
   go_wp2
   go_ret
   exact ⟨i,rfl,hjn,HI.out,HJ.out,hB⟩
def passP (d:List Rg) (cf ct ce:Int) (i:Nat):Bool:=decide (0 < waysI (gRg d i) ⟨cf,ct,0,0,0⟩) || (waysI (gRg d i) ⟨cf,ct,0,0,0⟩ == 0 && decide (ce ≤ (gRg d i).en))
set_option maxHeartbeats 1000000 in
set_option maxRecDepth 100000 in
theorem owlt1_any (A:Option Addr) (n c:Nat) (d:List Rg) (ci cf ct cs ce cr:Int) (i gl gw gc:Nat) (w:World) (hd:d.length = n) (hn:n ≤ 1000000) (h:Sl w w.heap.size 5 A n c (flatRg d)) (hi:i < n)
  (hL:Blok w gl 23 #[.slice A n c]) (hW:Blok w gw 100 #[.int .i64 cf,.int .i64 ct,.int .i64 0,.int .i64 0,.int .i64 0]) (hC:Blok w gc 59 #[.int .i64 ci,.int .i64 cf,.int .i64 ct,.int .i64 cs,.int .i64 ce,.int .i64 cr]) :
  Calls Tryz.prog 132 #[.int .i64 i,.pointer (some ⟨gl,0,none⟩),.pointer (some ⟨gw,0,none⟩),.pointer (some ⟨gc,0,none⟩)] w fun e w' => e = .returned (.bool (passP d cf ct ce i)) ∧ Below w.heap.size w w':=by
 obtain ⟨ad,rfl,hab,c0,c1,c2,c3,c4⟩:=h.lst.atRg hd hi
 obtain ⟨x,hx⟩:∃ x,gRg d i = x:=⟨_,rfl⟩
 rw [hx] at c0 c1 c2 c3 c4
 obtain ⟨y,hy⟩:∃ y,waysI x ⟨cf,ct,0,0,0⟩ = y:=⟨_,rfl⟩
 have hfin:passP d cf ct ce i = (decide (0 < y) || (y == 0 && decide (ce ≤ x.en))):=by unfold passP; rw [hx,hy]
 rw [hfin]
 have HY:=Lib.hid hy
 have l0:w.cell? ⟨gl,0,none⟩ = some (.slice (some ad) n c):=hL.cell 0
 have w0:w.cell? ⟨gw,0,none⟩ = some (.int .i64 cf):=hW.cell 0
 have w1:w.cell? ⟨gw,1,none⟩ = some (.int .i64 ct):=hW.cell 1
 have w2:w.cell? ⟨gw,2,none⟩ = some (.int .i64 0):=hW.cell 2
 have w3:w.cell? ⟨gw,3,none⟩ = some (.int .i64 0):=hW.cell 3
 have w4:w.cell? ⟨gw,4,none⟩ = some (.int .i64 0):=hW.cell 4
 have k4:w.cell? ⟨gc,4,none⟩ = some (.int .i64 ce):=hC.cell 4
 have hil:(i:Int) < (n:Int):=by omega
 clear hx hy hfin hd hL hW hC
 go_enter Tryz.func132,Tryz.ntmps132
 go_wp2_with fail
 have q_l0:=fun d os => cell_regrown l0 d os
 have q_w0:=fun d os => cell_regrown w0 d os
 have q_w1:=fun d os => cell_regrown w1 d os
 have q_w2:=fun d os => cell_regrown w2 d os
 have q_w3:=fun d os => cell_regrown w3 d os
 have q_w4:=fun d os => cell_regrown w4 d os
 have q_c0:=fun d os => cell_regrown c0 d os
 have q_c1:=fun d os => cell_regrown c1 d os
 have q_c2:=fun d os => cell_regrown c2 d os
 have q_c3:=fun d os => cell_regrown c3 d os
 have q_c4:=fun d os => cell_regrown c4 d os
 try simp only [List.append]
 first | refine wp_region_text_below ?_ | refine wp_region_quiet_below (by kernel_rfl) (by kernel_rfl) ?_
 repeat (go_big_quiet_step ((go_at_call 133; with_reducible exact Calls.regrown_of (HY.out ▸ ways_any x ⟨cf,ct,0,0,0⟩ _))))
 refine wpQuiet_nil ?_
 intro _ hqw
 obtain ⟨pq,hqw⟩:=hqw
 subst hqw
 clear q_l0 q_w0 q_w1 q_w2 q_w3 q_w4 q_c0 q_c1 q_c2 q_c3 q_c4
 have hB:=below_regrown w pq.d pq.os
 have l0':(grow (redrawn w pq.d) pq.os).cell? ⟨gl,0,none⟩ = some (.slice (some ad) n c):=cell_regrown l0 _ _
 have k4':(grow (redrawn w pq.d) pq.os).cell? ⟨gc,4,none⟩ = some (.int .i64 ce):=cell_regrown k4 _ _
 have c3':(grow (redrawn w pq.d) pq.os).cell? ⟨(ad.add (i * 5)).block,(ad.add (i * 5)).off + 3,none⟩ = some (.int .i64 x.en):=cell_regrown c3 _ _
 clear l0 w0 w1 w2 w3 w4 c0 c1 c2 c3 c4 k4 h
 generalize grow (redrawn w pq.d) pq.os = wq at *
 have hs:=hB.size
 by_cases hy1:0 < y
 ·have hd1:decide (0 < y) = true:=by simpa using hy1
  go_wp2_with fail
  have q_l0':=fun d os => cell_regrown l0' d os
  have q_k4':=fun d os => cell_regrown k4' d os
  have q_c3':=fun d os => cell_regrown c3' d os
  try simp only [List.append]
  first | refine wp_region_text_below ?_ | refine wp_region_quiet_below (by kernel_rfl) (by kernel_rfl) ?_
  repeat (go_big_quiet_step ((fail)))
  refine wpQuiet_nil ?_
  intro _ hqw
  obtain ⟨pq,hqw⟩:=hqw
  subst hqw
  clear q_l0' q_k4' q_c3'
  have hb2:=below_regrown wq pq.d pq.os
  go_wp2
  go_ret
  exact ⟨by simp [hd1],hB.trans (hb2.mono hs)⟩
 ·have hd1:decide (0 < y) = false:=by simpa using hy1
  by_cases hy0:y = 0
  ·have hd2:(y == 0) = true:=by simpa using hy0
   go_wp2_with fail
   have q_l0':=fun d os => cell_regrown l0' d os
   have q_k4':=fun d os => cell_regrown k4' d os
   have q_c3':=fun d os => cell_regrown c3' d os
   try simp only [List.append]
   first | refine wp_region_text_below ?_ | refine wp_region_quiet_below (by kernel_rfl) (by kernel_rfl) ?_
   repeat (go_big_quiet_step ((fail)))
   refine wpQuiet_nil ?_
   intro _ hqw
   obtain ⟨pq,hqw⟩:=hqw
   subst hqw
   clear q_l0' q_k4' q_c3'
   have hb2:=below_regrown wq pq.d pq.os
   go_wp2
   go_ret
   exact ⟨by simp [hd1,hd2],hB.trans (hb2.mono hs)⟩
  ·have hd2:(y == 0) = false:=by simpa using hy0
   go_wp2_with fail
   have q_l0':=fun d os => cell_regrown l0' d os
   have q_k4':=fun d os => cell_regrown k4' d os
   have q_c3':=fun d os => cell_regrown c3' d os
   try simp only [List.append]
   first | refine wp_region_text_below ?_ | refine wp_region_quiet_below (by kernel_rfl) (by kernel_rfl) ?_
   repeat (go_big_quiet_step ((fail)))
   refine wpQuiet_nil ?_
   intro _ hqw
   obtain ⟨pq,hqw⟩:=hqw
   subst hqw
   clear q_l0' q_k4' q_c3'
   have hb2:=below_regrown wq pq.d pq.os
   go_wp2
   go_ret
   exact ⟨by simp [hd1,hd2],hB.trans (hb2.mono hs)⟩
theorem pred_owlt (A:Option Addr) (n c:Nat) (d:List Rg) (ci cf ct cs ce cr:Int) (gl gw gc:Nat) (w:World) (hd:d.length = n) (hn:n ≤ 1000000) (h:Sl w w.heap.size 5 A n c (flatRg d))
  (hL:Blok w gl 23 #[.slice A n c]) (hW:Blok w gw 100 #[.int .i64 cf,.int .i64 ct,.int .i64 0,.int .i64 0,.int .i64 0]) (hC:Blok w gc 59 #[.int .i64 ci,.int .i64 cf,.int .i64 ct,.int .i64 cs,.int .i64 ce,.int .i64 cr]) :
  PredI 132 #[.pointer (some ⟨gl,0,none⟩),.pointer (some ⟨gw,0,none⟩),.pointer (some ⟨gc,0,none⟩)] n w (passP d cf ct ce):=
 ⟨enter_run Tryz.func132 rfl rfl,fun w' hb i hi => owlt1_any A n c d ci cf ct cs ce cr i gl gw gc w' hd hn (h.up hb) hi (hL.below hb hL.lt) (hW.below hb hW.lt) (hC.below hb hC.lt)⟩
end Go.Proofs.YtodcoockhkghdaaGreat.Kr

/- A map from int to bool that the call made: what it tells at a key, a store, its laws in a walk. No condition. -/
namespace Go.Proofs.YtodcoockhkghdaaGreat
open Go.ChangeShapes Go.WideShapes Go.ChangeAt Go.RowKit Go.Sort
set_option linter.unusedSimpArgs false
set_option linter.unusedVariables false
open Go.Maps (Keyed)
theorem keyedI:Keyed Tryz.prog 3:=Maps.int_keyed Tryz.underlying3
theorem zeroB (w:World):(zeroValue 4).run Tryz.prog w = .ok (.bool false) w:=by kernel_rfl
/-- Block b is a map that the call made, and tells S of each int. -/
def SetW (w:World) (b n:Nat) (S:Int → Bool):Prop:=
 ∃ D:DataW Unit,w.ownsMap Tryz.prog 3 (plainElem Tryz.prog 4) b n D ∧ Maps.IsMap D ∧ ∀ k,(Lit.int .i64 k).wf = true → D.atKey (.int .i64 k) (.lit (.bool false)) = .lit (.bool (S k))
theorem wfI {k:Int} (h : -9223372036854775808 ≤ k ∧ k ≤ 9223372036854775807):(Lit.int .i64 k).wf = true:=by
 simp [Lit.wf,IntKind.min,IntKind.max,IntKind.signed,IntKind.bits]; omega
theorem plainElem_bool_inv {P:Program} {e:TypeId} (he:P.underlying e = some .bool) {v:Value} {z:DataW Unit × List MemPlace} (h:plainElem P e v = some z):∃ x,v = .bool x ∧ z = (.lit (.bool x),[]):=by
 unfold plainElem at h
 rw [he] at h
 cases v <;> simp at h
 rename_i x
 exact ⟨x,rfl,h.symm⟩
theorem SetW.made (w:World):SetW (w.alloc (.map #[] 0)) w.heap.size 0 (fun _ => false):=
 ⟨.map [],World.ownsMap_made _ _ _ _,⟨[],rfl⟩,fun k _ => rfl⟩
theorem SetW.lt {w:World} {b n:Nat} {S:Int → Bool} (h:SetW w b n S):b < w.heap.size:=let ⟨_,h,_⟩:=h; h.lt
theorem SetW.kept {w w':World} {b n:Nat} {S:Int → Bool} {row:Option Nat} (h:SetW w b n S) (hg:w.grownBy w' row) (hne:some b ≠ row):SetW w' b n S:=let ⟨D,h1,h2⟩:=h; ⟨D,h1.kept hg hne,h2⟩
theorem SetW.below {w w':World} {b n:Nat} {S:Int → Bool} (h:SetW w b n S) (hb:Below w.heap.size w w'):SetW w' b n S:=h.kept (grown_of_below (row:=none) hb) (by simp)
theorem SetW.alloc {w:World} {b n:Nat} {S:Int → Bool} (h:SetW w b n S) (o:Obj):SetW (w.alloc o) b n S:=let ⟨D,h1,h2⟩:=h; ⟨D,h1.alloc o,h2⟩
theorem SetW.drew {w:World} {b n:Nat} {S:Int → Bool} (h:SetW w b n S):SetW w.drew b n S:=h
theorem SetW.congr {w:World} {b n:Nat} {S S':Int → Bool} (h:SetW w b n S) (e:∀ k,(Lit.int .i64 k).wf = true → S k = S' k):SetW w b n S':=let ⟨D,h1,h2,h3⟩:=h; ⟨D,h1,h2,fun k hk => by rw [h3 k hk,e k hk]⟩
theorem SetW.look {w:World} {b n:Nat} {S:Int → Bool} (h:SetW w b n S) {k:Int} (hk:(Lit.int .i64 k).wf = true):(Instr.lookup 134 (.map (some b)) (.int .i64 k) false).run Tryz.prog w = .ok (.bool (S k)) w:=by
 obtain ⟨D,h1,h2,h3⟩:=h
 obtain ⟨v,ps,hrun,hv⟩:=h1.lookup keyedI Tryz.underlying134 (zeroB w) (plainElem_bool Tryz.underlying4 false) (Maps.keyOf_int_mk Tryz.underlying3 hk)
 obtain ⟨x,rfl,hx⟩:=plainElem_bool_inv Tryz.underlying4 hv
 rw [h3 k hk] at hx
 simp only [Prod.mk.injEq,DataW.lit.injEq,Lit.bool.injEq] at hx
 rw [hrun,hx.1]
theorem SetW.put {w:World} {b n:Nat} {S:Int → Bool} (h:SetW w b n S) (hn:n < maxLen) {k:Int} (hk:(Lit.int .i64 k).wf = true) (v:Bool) :
  ∃ w',(Instr.mapUpdate 134 (.map (some b)) (.int .i64 k) (.bool v)).run Tryz.prog w = .ok () w' ∧ SetW w' b (n + 1) (fun j => if j = k then v else S j) ∧ w.grownBy w' (some b):=by
 obtain ⟨D,h1,h2,h3⟩:=h
 obtain ⟨w',hrun,hown,hg⟩:=h1.update keyedI Tryz.underlying134 hn (Maps.keyOf_int_mk Tryz.underlying3 hk) (plainElem_bool Tryz.underlying4 v)
 refine ⟨w',hrun,⟨_,hown,h2.put _ _,fun j hj => ?_⟩,hg⟩
 by_cases e:j = k
 ·subst e
  rw [Maps.atKey_put_same h2 (by simp [WideAt.IsKeyLit])]; simp
 ·rw [Maps.atKey_put_other (by intro e2; injection e2 with _ e3; exact e e3),h3 j hj]; simp [e]
/-- A store, at the operation. -/
theorem wpList_put_set {ops:Array Oper} {rest:List Oper} {o:Oper} {a:Act} {w:World} {Q:Exit → Act → World → Prop} (hg:o.guard = none) (m x v:Operand) (hop:o.op = Op.mapUpdate 134 m x v) (b n:Nat) (S:Int → Bool) (k:Int) (vb:Bool)
  (hm:a.eval m = .map (some b)) (h:SetW w b n S) (hn:n < maxLen) (hx:a.eval x = .int .i64 k) (hk:(Lit.int .i64 k).wf = true) (hv:a.eval v = .bool vb)
  (hK:∀ w',SetW w' b (n + 1) (fun j => if j = k then vb else S j) → w.grownBy w' (some b) → wpList Tryz.prog ops Q rest (a.put o.dst undef) w'):wpList Tryz.prog ops Q (o :: rest) a w:=by
 refine wpList_plain hg fun K' hK' => ?_
 obtain ⟨w',hrun,h1,h2⟩:=h.put hn hk vb
 unfold Oper.wp
 simp [execOp,hop,hm,hx,hv,hrun,Result.andThen]
 exact hK' _ _ (hK w' h1 h2)
end Go.Proofs.YtodcoockhkghdaaGreat

/- api.Contact: its cells, lists of it. No condition. -/
namespace Go.Proofs.YtodcoockhkghdaaGreat
open Go.ChangeShapes Go.WideShapes Go.ChangeAt Go.RowKit Go.Sort
set_option linter.unusedSimpArgs false
set_option linter.unusedVariables false
structure Co where
 id:Int
 fr:Int
 tn:Int
 st:Int
 en:Int
 rt:Int
theorem Co.ext_ {a b:Co} (h0:a.id = b.id) (h1:a.fr = b.fr) (h2:a.tn = b.tn) (h3:a.st = b.st) (h4:a.en = b.en) (h5:a.rt = b.rt):a = b:=by cases a; cases b; simp_all
instance:DecidableEq Co:=fun a b => if h:a.id = b.id ∧ a.fr = b.fr ∧ a.tn = b.tn ∧ a.st = b.st ∧ a.en = b.en ∧ a.rt = b.rt then isTrue (Co.ext_ h.1 h.2.1 h.2.2.1 h.2.2.2.1 h.2.2.2.2.1 h.2.2.2.2.2) else isFalse (by rintro rfl; simp at h)
def Co.cs (r:Co):List Value:=[.int .i64 r.id,.int .i64 r.fr,.int .i64 r.tn,.int .i64 r.st,.int .i64 r.en,.int .i64 r.rt]
def flatCo (d:List Co):List Value:=d.flatMap Co.cs
def gCo (d:List Co) (i:Nat):Co:=d.getD i ⟨0,0,0,0,0,0⟩
theorem flatCo_cons (p:Co) (d:List Co):flatCo (p :: d) = .int .i64 p.id :: .int .i64 p.fr :: .int .i64 p.tn :: .int .i64 p.st :: .int .i64 p.en :: .int .i64 p.rt :: flatCo d:=rfl
theorem flatCo_at0:∀ (d:List Co) (i:Nat),i < d.length → (flatCo d)[i * 6]? = some (.int .i64 (gCo d i).id)
 | p :: d,0,_ => rfl
 | p :: d,i + 1,h => by
  rw [flatCo_cons,show (i + 1) * 6 = i * 6 + 1 + 1 + 1 + 1 + 1 + 1 from by omega]
  simp only [List.getElem?_cons_succ]
  exact flatCo_at0 d i (by simpa using h)
theorem flatCo_at1:∀ (d:List Co) (i:Nat),i < d.length → (flatCo d)[i * 6 + 1]? = some (.int .i64 (gCo d i).fr)
 | p :: d,0,_ => rfl
 | p :: d,i + 1,h => by
  rw [flatCo_cons,show (i + 1) * 6 + 1 = i * 6 + 1 + 1 + 1 + 1 + 1 + 1 + 1 from by omega]
  simp only [List.getElem?_cons_succ]
  exact flatCo_at1 d i (by simpa using h)
theorem flatCo_at2:∀ (d:List Co) (i:Nat),i < d.length → (flatCo d)[i * 6 + 2]? = some (.int .i64 (gCo d i).tn)
 | p :: d,0,_ => rfl
 | p :: d,i + 1,h => by
  rw [flatCo_cons,show (i + 1) * 6 + 2 = i * 6 + 2 + 1 + 1 + 1 + 1 + 1 + 1 from by omega]
  simp only [List.getElem?_cons_succ]
  exact flatCo_at2 d i (by simpa using h)
theorem flatCo_at3:∀ (d:List Co) (i:Nat),i < d.length → (flatCo d)[i * 6 + 3]? = some (.int .i64 (gCo d i).st)
 | p :: d,0,_ => rfl
 | p :: d,i + 1,h => by
  rw [flatCo_cons,show (i + 1) * 6 + 3 = i * 6 + 3 + 1 + 1 + 1 + 1 + 1 + 1 from by omega]
  simp only [List.getElem?_cons_succ]
  exact flatCo_at3 d i (by simpa using h)
theorem flatCo_at4:∀ (d:List Co) (i:Nat),i < d.length → (flatCo d)[i * 6 + 4]? = some (.int .i64 (gCo d i).en)
 | p :: d,0,_ => rfl
 | p :: d,i + 1,h => by
  rw [flatCo_cons,show (i + 1) * 6 + 4 = i * 6 + 4 + 1 + 1 + 1 + 1 + 1 + 1 from by omega]
  simp only [List.getElem?_cons_succ]
  exact flatCo_at4 d i (by simpa using h)
theorem flatCo_at5:∀ (d:List Co) (i:Nat),i < d.length → (flatCo d)[i * 6 + 5]? = some (.int .i64 (gCo d i).rt)
 | p :: d,0,_ => rfl
 | p :: d,i + 1,h => by
  rw [flatCo_cons,show (i + 1) * 6 + 5 = i * 6 + 5 + 1 + 1 + 1 + 1 + 1 + 1 from by omega]
  simp only [List.getElem?_cons_succ]
  exact flatCo_at5 d i (by simpa using h)
theorem rowsCo_of:∀ (n:Nat) (ns:List Int),ns.length = n * 6 → ∃ d:List Co,d.length = n ∧ ns.map (Value.int .i64) = flatCo d
 | 0,[],_ => ⟨[],rfl,rfl⟩
 | 0,_ :: _,h => by simp at h
 | n + 1,a0 :: a1 :: a2 :: a3 :: a4 :: a5 :: ns,h => by
  obtain ⟨d,h1,h2⟩:=rowsCo_of n ns (by simp at h; omega)
  exact ⟨⟨a0,a1,a2,a3,a4,a5⟩ :: d,by simp [h1],by simp [flatCo_cons,h2]⟩
 | n + 1,[],h => by simp at h <;> omega
 | n + 1,[_],h => by simp at h <;> omega
 | n + 1,[_,_],h => by simp at h <;> omega
 | n + 1,[_,_,_],h => by simp at h <;> omega
 | n + 1,[_,_,_,_],h => by simp at h <;> omega
 | n + 1,[_,_,_,_,_],h => by simp at h <;> omega

theorem Lst.atCo {w:World} {B:Nat} {A:Option Addr} {n:Nat} {l:List Co} (h:Lst w B 6 A n (flatCo l)) (hl:l.length = n) {k:Nat} (hk:k < n):∃ ad,A = some ad ∧ ad.block < B ∧ w.cell? (ad.add (k * 6)) = some (.int .i64 (gCo l k).id) ∧ w.cell? ⟨(ad.add (k * 6)).block,(ad.add (k * 6)).off + 1,none⟩ = some (.int .i64 (gCo l k).fr) ∧ w.cell? ⟨(ad.add (k * 6)).block,(ad.add (k * 6)).off + 2,none⟩ = some (.int .i64 (gCo l k).tn) ∧ w.cell? ⟨(ad.add (k * 6)).block,(ad.add (k * 6)).off + 3,none⟩ = some (.int .i64 (gCo l k).st) ∧ w.cell? ⟨(ad.add (k * 6)).block,(ad.add (k * 6)).off + 4,none⟩ = some (.int .i64 (gCo l k).en) ∧ w.cell? ⟨(ad.add (k * 6)).block,(ad.add (k * 6)).off + 5,none⟩ = some (.int .i64 (gCo l k).rt):=by
 obtain ⟨ad,e,hb,hc⟩:=h.at_ (by omega)
 exact ⟨ad,e,hb,hc _ _ (flatCo_at0 l k (by omega)),by rw [addr_next _ _ _ (by omega)]; exact hc _ _ (flatCo_at1 l k (by omega)),by rw [addr_next _ _ _ (by omega)]; exact hc _ _ (flatCo_at2 l k (by omega)),by rw [addr_next _ _ _ (by omega)]; exact hc _ _ (flatCo_at3 l k (by omega)),by rw [addr_next _ _ _ (by omega)]; exact hc _ _ (flatCo_at4 l k (by omega)),by rw [addr_next _ _ _ (by omega)]; exact hc _ _ (flatCo_at5 l k (by omega))⟩
theorem gCo_mem {d:List Co} {i:Nat} (h:i < d.length):gCo d i ∈ d:=by
 unfold gCo; rw [List.getD_eq_getElem?_getD,List.getElem?_eq_getElem h]; simp
theorem gCo_eq {d:List Co} {i:Nat} (h:i < d.length):gCo d i = d[i]:=by
 unfold gCo; rw [List.getD_eq_getElem?_getD,List.getElem?_eq_getElem h]; rfl
end Go.Proofs.YtodcoockhkghdaaGreat

/- The generic library's functions at 59-rows: Clone, Equal, Grow, Concat, IndexFunc, ContainsFunc, DeleteFunc. -/
namespace Go.Proofs.YtodcoockhkghdaaGreat
open Go.ChangeShapes Go.WideShapes Go.ChangeAt Go.RowKit Go.Sort
set_option linter.unusedSimpArgs false
set_option linter.unusedVariables false
/-- A function value that tells p, in whatever world that has grown from W but for this block. -/
structure PredCo (g:FuncId) (lb:Array Value) (row:Option Nat) (W:World) (p:Co → Bool):Prop where
 run:∀ vals w,(callFunc g vals).run Tryz.prog w = .ok (.enter g vals) w
 tells:∀ w',W.grownBy w' row → ∀ x:Co,Calls Tryz.prog g (#[.agg #[.int .i64 x.id,.int .i64 x.fr,.int .i64 x.tn,.int .i64 x.st,.int .i64 x.en,.int .i64 x.rt]] ++ lb) w' fun e w'' => e = .returned (.bool (p x)) ∧ Below w'.heap.size w' w''
theorem PredCo.next {g:FuncId} {lb:Array Value} {row:Option Nat} {W W':World} {p:Co → Bool} (h:PredCo g lb row W p) (hg:W.grownBy W' row):PredCo g lb row W' p:=⟨h.run,fun w' h' x => h.tells w' (grown_trans hg h') x⟩
theorem PredCo.below {g:FuncId} {lb:Array Value} {row:Option Nat} {W W':World} {p:Co → Bool} (h:PredCo g lb row W p) (hb:Below W.heap.size W W'):PredCo g lb row W' p:=h.next (grown_of_below hb)
end Go.Proofs.YtodcoockhkghdaaGreat

/- IndexFunc and DeleteFunc at 59-rows, the closure with a state of its own. -/
namespace Go.Proofs.YtodcoockhkghdaaGreat.Kc
open Go.ChangeShapes Go.WideShapes Go.ChangeAt Go.RowKit Go.Sort
set_option linter.unusedSimpArgs false
set_option linter.unusedVariables false
end Go.Proofs.YtodcoockhkghdaaGreat.Kc

/- Package contacts: Compare, overlap, has, the closures. No condition. -/
namespace Go.Proofs.YtodcoockhkghdaaGreat.Kc
open Go.ChangeShapes Go.WideShapes Go.ChangeAt Go.RowKit Go.Sort
set_option linter.unusedSimpArgs false
set_option linter.unusedVariables false
def cmpC (a b:Co):Int:=orF [cmpI a.fr b.fr,cmpI a.tn b.tn,cmpI a.st b.st,cmpI a.id b.id]
def ltC (a b:Co):Prop:=a.fr < b.fr ∨ a.fr = b.fr ∧ (a.tn < b.tn ∨ a.tn = b.tn ∧ (a.st < b.st ∨ a.st = b.st ∧ a.id < b.id))
theorem cmpI_spec (a b:Int):(a < b ∧ cmpI a b = -1) ∨ (a = b ∧ cmpI a b = 0) ∨ (b < a ∧ cmpI a b = 1):=by
 rcases Int.lt_trichotomy a b with h | h | h
 ·exact .inl ⟨h,cmpI_lt h⟩
 ·exact .inr (.inl ⟨h,cmpI_zero.2 h⟩)
 ·exact .inr (.inr ⟨h,cmpI_gt h⟩)
theorem cmpC_spec (a b:Co):(ltC a b ∧ cmpC a b = -1) ∨ (a.fr = b.fr ∧ a.tn = b.tn ∧ a.st = b.st ∧ a.id = b.id ∧ cmpC a b = 0) ∨ (ltC b a ∧ cmpC a b = 1):=by
 unfold cmpC ltC
 rcases cmpI_spec a.fr b.fr with ⟨h1,e1⟩ | ⟨h1,e1⟩ | ⟨h1,e1⟩ <;> rcases cmpI_spec a.tn b.tn with ⟨h2,e2⟩ | ⟨h2,e2⟩ | ⟨h2,e2⟩ <;> rcases cmpI_spec a.st b.st with ⟨h3,e3⟩ | ⟨h3,e3⟩ | ⟨h3,e3⟩ <;> rcases cmpI_spec a.id b.id with ⟨h4,e4⟩ | ⟨h4,e4⟩ | ⟨h4,e4⟩ <;>
  simp only [e1,e2,e3,e4,orF] <;> simp <;> omega
def overC (a b:Co):Bool:=decide (a.fr = b.fr ∧ a.tn = b.tn ∧ a.st < b.en ∧ b.st < a.en)
end Go.Proofs.YtodcoockhkghdaaGreat.Kc

/- A call of a function value, as one step of a region that draws its order. No condition. -/
namespace Go.Proofs.YtodcoockhkghdaaGreat
open Go.ChangeShapes Go.WideShapes Go.ChangeAt Go.RowKit Go.Sort
set_option linter.unusedSimpArgs false
set_option linter.unusedVariables false
theorem step_dyn {P:Program} {ops:Array Oper} {o:Oper} {a:Act} {w:World} {K:Act → World → Prop} {Q:Exit → Act → World → Prop} {E:Prop} (hgd:o.guard = none) (c:Operand) (xs:Array Operand) (ats:Array TypeId)
  (ho : o.op = .call { callee := .value c, args := xs, argTypes := ats }) (f : FuncId) (cb : Array Value) (hc : a.eval c = .func (.func f) #[] cb) (vals : Array Value) (hv : xs.map a.eval ++ cb = vals) {fn : Func} (hf : P.funcs[f]? = some fn) (hb : fn.body.isNone = false) (hnm : (fn.name == "runtime.NumGoroutine") = false)
  (h:Calls P f vals w fun e w' => ∃ v,e = .returned v ∧ K (a.put o.dst v) w') :
  if Region.wanted o (yielded ops a.tmps) = true then Oper.wp P o a w K Q else E:=by
 rw [if_pos (by simp [Region.wanted,hgd])]
 obtain ⟨dst,op,ty,pos,after,guard⟩:=o
 simp only at ho
 subst ho
 unfold Oper.wp
 have e0:execOp a.eval { dst,op:=.call { callee:=.value c,args:=xs,argTypes:=ats },type:=ty,pos,after,guard } = callFunc f vals:=by
  rw [← hv]
  simp [execOp,resolve,Deferred.ofValue,hc,invoke]
 rw [e0]
 have e:(callFunc f vals).run P w = .ok (.enter f vals) w:=by
  have h1 : fn.name ≠ "runtime.NumGoroutine" := by simpa using hnm
  have h2:fn.body ≠ none:=by intro e; rw [e] at hb; cases hb
  simp [callFunc,run_program,hf]
  rw [if_neg h1,if_neg h2]
 rw [e]
 refine h.mono ?_
 rintro e w' ⟨v,rfl,hK⟩
 exact hK
end Go.Proofs.YtodcoockhkghdaaGreat
